/- DiskKeeps in one text (merged from DiskDo2, 4, 7, DiskKeepM, DiskOpen, DiskKeepsW: a claim holds 60 files). -/
import Derived.Test.YtbhapbioibhalaaDiskDoM
import Derived.Test.YtbhapbioibhalaaDiskDo0
import Derived.Test.YtbhapbioibhalaaDiskDo1
import Derived.Test.YtbhapbioibhalaaDiskDo3
import Derived.Test.YtbhapbioibhalaaDiskDo5
import Derived.Test.YtbhapbioibhalaaDiskDo6
import Derived.Test.YtbhapbioibhalaaDiskM
import Derived.Test.YtbhapbioibhalaaSliceOpen
import Derived.Test.YtbhapbioibhalaaAppendRows
import Derived.ProofKit
import Derived.ShutString
import Derived.ChangeOld
import Derived.Lib.SmallJoins
import Derived.Deep.Strs
import Derived.BigQuiet

namespace Go.Proofs.Ytbhapbioibhalaa
open Go Go.RowKit Go.Maps

/-- A row of bytes of one's own, whatever they are. -/
def AnyRow (W : World) (g n : Nat) : Prop := ∃ cur : Array Value, W.heap[g]? = some (.cells cur 5 (0, 0)) ∧ ∀ i, i < n → ∃ c : UInt8, cur[i]? = some (.int .u8 (c.toNat : Int))
def IncRel (w9 : World) (a : Option Addr) (g n : Nat) (iv : Value) (wr : World) : Prop := ∃ i : Nat, iv = .int .i64 (i : Int) ∧ i ≤ n ∧ (0 < n → a = some ⟨g, 0, none⟩ ∧ AnyRow wr g n) ∧ Touch w9 wr [g]
theorem plus_one1 (c : UInt8) : ∃ d : UInt8, IntKind.u8.wrap ((c.toNat : Int) + 1) = (d.toNat : Int) := by
  refine ⟨UInt8.ofNat (c.toNat + 1), ?_⟩
  rw [IntKind.wrap_u8]
  simp
theorem AnyRow.of_owns {W : World} {B g n cap : Nat} {l : List UInt8} (h : W.ownsRow B 5 1 (.slice (some ⟨g, 0, none⟩) n cap) n (bcells l)) : AnyRow W g n := by
  have hl := h.1
  rcases h.2 with ⟨h1, _⟩ | ⟨g', cap', cur, h1, _, h2, _, _, _, h3⟩
  · cases h1
  · cases h1
    refine ⟨cur, h2, fun i hi => ?_⟩
    have hi2 : i < l.length := by rw [bcells_length] at hl; omega
    refine ⟨l[i], ?_⟩
    have h4 : (cur.toList.take (n * 1))[i]? = some (.int .u8 (l[i].toNat : Int)) := by
      rw [h3]
      simp [bcells, hi2]
    rw [List.getElem?_take_of_lt (by omega)] at h4
    simpa using h4
theorem AnyRow.set {W : World} {g n i : Nat} (h : AnyRow W g n) (z : UInt8) : AnyRow (W.setCell ⟨g, i, none⟩ (.int .u8 (z.toNat : Int))) g n := by
  obtain ⟨cur, h1, h2⟩ := h
  refine ⟨_, heap_setCell_same _ g i _ _ _ h1, fun j hj => ?_⟩
  by_cases e : i = j
  · subst e
    obtain ⟨c, hc⟩ := h2 i hj
    exact ⟨z, by rw [Array.getElem?_setIfInBounds_self_of_lt (Array.getElem?_eq_some_iff.1 hc).1]⟩
  · obtain ⟨c, hc⟩ := h2 j hj
    exact ⟨c, by rw [Array.getElem?_setIfInBounds_ne e]; exact hc⟩

set_option maxRecDepth 100000 in
set_option maxHeartbeats 8000000 in
theorem do2_any (W : World) (B d r : Nat) (S : Dk) (κ : Int) (A C : ByteArray) (ba : Option Addr) (m bc : Nat) (l : List UInt8) (N : Int) (hx : DoArgs W B d r S A C ba m bc l) (hκ : 0 ≤ κ ∧ κ ≤ 255) (hk : κ % 9 = 2) :
    Calls Try.prog 12 #[.pointer (some ⟨d, 0, none⟩), .pointer (some ⟨r, 0, none⟩), .agg #[.int .u8 κ, .string A, .string C, .slice ba m bc, .int .i64 N]] W (DoEnd W B d r S (fun T => T = S)) := by
  have bX := (Below.refl W.heap.size W).alloc (Nat.le_refl _) (.cells #[.int .u8 κ, .string A, .string C, .slice ba m bc, .int .i64 N] 31)
  have hbx : (W.alloc (.cells #[.int .u8 κ, .string A, .string C, .slice ba m bc, .int .i64 N] 31)).heap[W.heap.size]? = some (.cells #[.int .u8 κ, .string A, .string C, .slice ba m bc, .int .i64 N] 31 (0, 0)) := heap_alloc_new W _
  have HBX := Lib.hid bX
  have HXX := Lib.hid hbx
  have HX := Lib.hid hx
  have HQ := Lib.hid (fun (w : World) (t : Touch (W.alloc (.cells #[.int .u8 κ, .string A, .string C, .slice ba m bc, .int .i64 N] 31)) w (S.mine d)) => hx.ref bX t)
  have HP := Lib.hid (fun (w : World) (t : Touch (W.alloc (.cells #[.int .u8 κ, .string A, .string C, .slice ba m bc, .int .i64 N] 31)) w [r]) => hx.prog bX t)
  have HD1 := Lib.hid (hx.dk.below bX)
  have hxs := hx.fresh
  clear bX hbx hx
  go_enter Try.func12, Try.ntmps12
  have HRd := Lib.hid (read_any HD1.out A HX.out.hA)
  go_wp2_with (go_at_call 18; go_must (refine HRd.out.mono ?_))
  rintro e w7 ⟨v7, rfl, b7, h7⟩
  have t7 : Touch (W.alloc (.cells #[.int .u8 κ, .string A, .string C, .slice ba m bc, .int .i64 N] 31)) w7 (S.mine d) := Touch.of_below b7 _
  have HR := Lib.hid (HQ.out w7 t7).read
  have q7 := (b7.block _ (by simp)).trans HXX.out
  have u1 := Lib.cell_of_heap q7 1
  simp at u1
  have l7 : W.heap.size < w7.heap.size := (Array.getElem?_eq_some_iff.1 q7).1
  obtain ⟨n7, l', o7, hn7⟩ : ∃ (n7 : Nat) (l' : List UInt8), w7.ownsRow (W.alloc (.cells #[.int .u8 κ, .string A, .string C, .slice ba m bc, .int .i64 N] 31)).heap.size 5 1 v7 n7 (bcells l') ∧ n7 ≤ 16777216 := by
    rcases h7 with ⟨_, _, rfl⟩ | ⟨g, hg, h8⟩
    · exact ⟨0, [], ⟨by simp [bcells], .inl ⟨rfl, rfl⟩⟩, by omega⟩
    · have hf : g ∈ S.gs := by
        rcases find_ways S A with ⟨g', h9, h10⟩ | ⟨z, _, h9⟩
        · rw [h9] at hg
          cases hg
          exact HX.out.dk.fileIn h10
        · rw [h9] at hg
          cases hg
      exact ⟨_, _, h8, (HX.out.dk.fs g hf).2.2.2⟩
  obtain ⟨a7, c7, hv7, hn1, hn2⟩ := (ownsRow.reads o7).le
  subst hv7
  unfold maxLen at hn2
  obtain ⟨z7, hz7⟩ : ∃ z7, (findR S A).2 = z7 := ⟨_, rfl⟩
  rw [hz7]
  have HT7 := Lib.hid t7
  have HD7 := Lib.hid (HD1.out.below b7)
  have HO7 := Lib.hid o7
  clear t7 b7 q7 h7 o7 hz7 HRd
  go_wp2_with (go_at_call 19; go_must (refine HR.out.mono ?_))
  rintro e w8 ⟨⟨z8, rfl⟩, t8⟩
  have HE := Lib.hid (HX.out.ends HBX.out (.inl ⟨HT7.out, t8, rfl⟩) HD7.out)
  have hno : ∀ x, (Value.slice a7 n7 c7).ownBlock = some x → (W.alloc (.cells #[.int .u8 κ, .string A, .string C, .slice ba m bc, .int .i64 N] 31)).heap.size ≤ x ∧ x < w7.heap.size := fun x hx => ⟨(ownAt_lt (OwnAt.of_owns HO7.out) hx).2.1, (ownAt_lt (OwnAt.of_owns HO7.out) hx).1⟩
  have hrW := HX.out.rf.lt
  have hrd8 := t8.reads (ownsRow.reads HO7.out) (fun x hx e => by
    have h1 := (hno x hx).1
    have h2 := List.mem_singleton.1 e
    simp at h1
    omega)
  have hcv := Reads.conv (P := Try.prog) (w := w8) (src := 29) (e := 5) (dst := 9) Try.underlying29 Try.underlying5 Try.underlying9 hrd8
  have hcn := Reads.conv (P := Try.prog) (w := w8) (src := 29) (e := 5) (dst := 9) Try.underlying29 Try.underlying5 Try.underlying9 (l := []) (v := .slice none 0 0) (n := 0) ⟨rfl, none, 0, rfl, Nat.le_refl _, Nat.zero_le _, fun j u hj => by simp [bcells] at hj⟩
  have HRow := Lib.hid (show ∀ g, a7 = some ⟨g, 0, none⟩ → AnyRow w8 g n7 ∧ (W.alloc (.cells #[.int .u8 κ, .string A, .string C, .slice ba m bc, .int .i64 N] 31)).heap.size ≤ g from fun g hg => by
    subst hg
    obtain ⟨cur, h1, h2⟩ := AnyRow.of_owns HO7.out
    have h3 := hno g rfl
    refine ⟨⟨cur, t8.keep h1 (fun e => ?_), h2⟩, h3.1⟩
    have h4 := List.mem_singleton.1 e
    have h5 := h3.1
    simp at h5
    omega)
  have HSh := Lib.hid (show n7 = 0 ∨ ∃ g, a7 = some ⟨g, 0, none⟩ from by
    rcases HO7.out.2 with ⟨h1, h2⟩ | ⟨g, cap, cur, h1, _⟩
    · exact .inl h2
    · cases h1
      exact .inr ⟨g, rfl⟩)
  have HNo := Lib.hid hno
  clear t8 hrd8 hno HO7
  obtain ⟨g, hg⟩ : ∃ g, (W.alloc (.cells #[.int .u8 κ, .string A, .string C, .slice ba m bc, .int .i64 N] 31)).heap.size ≤ g ∧ (0 < n7 → a7 = some ⟨g, 0, none⟩ ∧ AnyRow w8 g n7) := by
    rcases HSh.out with h0 | ⟨g, hg⟩
    · exact ⟨_, Nat.le_refl _, fun h => by omega⟩
    · exact ⟨g, (HRow.out g hg).2, fun _ => ⟨hg, (HRow.out g hg).1⟩⟩
  have HG := Lib.hid hg
  have hend : ∀ wr, Touch w8 wr [g] → DAt wr B d S ∧ Touch W wr (r :: S.mine d) := by
    intro wr t
    have hgs := HG.out.1
    simp at hgs
    refine ⟨HE.out.1.keep t (fun x hx e => ?_), HE.out.2.trans t (fun x hx => hx) (fun x hx => .inr (by rw [List.mem_singleton.1 hx]; omega))⟩
    have h1 := (HX.out.dk.lt x hx).1
    have h2 := List.mem_singleton.1 e
    omega
  have HEnd := Lib.hid hend
  clear hend hg HSh HRow HNo HT7 HD7
  by_cases hzz : z7 = z8
  · subst hzz
    have hz7 : (z7 == z7) = true := by simp
    go_wp2
    go_loopw [70] (fun iv wr => IncRel w8 a7 g n7 iv wr) (fun iv _ => n7 - (intOf iv).toNat)
    case atStart => exact ⟨0, rfl, Nat.zero_le _, fun h => HG.out.2 h, Touch.refl _ _⟩
    case round =>
      rename World => wr
      obtain ⟨i, rfl, hi, hrow, ht⟩ := hrel
      have HTr := Lib.hid ht
      by_cases hlt : i < n7
      · have hltI : (i : Int) < n7 := by omega
        obtain ⟨ha7, hany⟩ := hrow (by omega)
        subst ha7
        have HAny := Lib.hid hany
        obtain ⟨cur, hcur, hcs⟩ := hany
        obtain ⟨c, hc⟩ := hcs i hlt
        obtain ⟨c2, hc2⟩ := plus_one1 c
        have k0 : wr.cell? ⟨g, i, none⟩ = some (.int .u8 (c.toNat : Int)) := by unfold World.cell?; rw [hcur]; exact hc
        have kf := Lib.frozen_of_heap hcur
        have hgl : g < wr.heap.size := (Array.getElem?_eq_some_iff.1 hcur).1
        clear hrow ht hcur hcs hc
        go_wp2
        exact ⟨⟨i + 1, by go_num, hlt, fun _ => ⟨rfl, HAny.out.set c2⟩, HTr.out.setCell (.inl List.mem_cons_self) _⟩, by simp [intOf]; omega⟩
      · have hltI : ¬ (i : Int) < n7 := by omega
        clear hrow ht
        go_wp2
        go_ret
        exact ⟨⟨_, rfl⟩, S, rfl, (HEnd.out wr HTr.out).1, (HEnd.out wr HTr.out).2⟩
  · have hz7 : (z7 == z8) = false := by rw [beq_eq_false_iff_ne]; exact hzz
    go_wp2
    go_loopw [70] (fun iv wr => IncRel w8 a7 g n7 iv wr) (fun iv _ => n7 - (intOf iv).toNat)
    case atStart => exact ⟨0, rfl, Nat.zero_le _, fun h => HG.out.2 h, Touch.refl _ _⟩
    case round =>
      rename World => wr
      obtain ⟨i, rfl, hi, hrow, ht⟩ := hrel
      have HTr := Lib.hid ht
      by_cases hlt : i < n7
      · have hltI : (i : Int) < n7 := by omega
        obtain ⟨ha7, hany⟩ := hrow (by omega)
        subst ha7
        have HAny := Lib.hid hany
        obtain ⟨cur, hcur, hcs⟩ := hany
        obtain ⟨c, hc⟩ := hcs i hlt
        obtain ⟨c2, hc2⟩ := plus_one1 c
        have k0 : wr.cell? ⟨g, i, none⟩ = some (.int .u8 (c.toNat : Int)) := by unfold World.cell?; rw [hcur]; exact hc
        have kf := Lib.frozen_of_heap hcur
        have hgl : g < wr.heap.size := (Array.getElem?_eq_some_iff.1 hcur).1
        clear hrow ht hcur hcs hc
        go_wp2
        exact ⟨⟨i + 1, by go_num, hlt, fun _ => ⟨rfl, HAny.out.set c2⟩, HTr.out.setCell (.inl List.mem_cons_self) _⟩, by simp [intOf]; omega⟩
      · have hltI : ¬ (i : Int) < n7 := by omega
        clear hrow ht
        go_wp2
        go_ret
        exact ⟨⟨_, rfl⟩, S, rfl, (HEnd.out wr HTr.out).1, (HEnd.out wr HTr.out).2⟩
end Go.Proofs.Ytbhapbioibhalaa

namespace Go.Proofs.Ytbhapbioibhalaa
open Go Go.RowKit Go.Maps

set_option maxRecDepth 100000 in
set_option maxHeartbeats 8000000 in
theorem do4_any (W : World) (B d r : Nat) (S : Dk) (κ : Int) (A C : ByteArray) (ba : Option Addr) (m bc : Nat) (l : List UInt8) (N : Int) (hx : DoArgs W B d r S A C ba m bc l) (hκ : 0 ≤ κ ∧ κ ≤ 255) (hk : κ % 9 = 4) :
    Calls Try.prog 12 #[.pointer (some ⟨d, 0, none⟩), .pointer (some ⟨r, 0, none⟩), .agg #[.int .u8 κ, .string A, .string C, .slice ba m bc, .int .i64 N]] W (DoEnd W B d r S (SyncDirS S)) := by
  have bX := (Below.refl W.heap.size W).alloc (Nat.le_refl _) (.cells #[.int .u8 κ, .string A, .string C, .slice ba m bc, .int .i64 N] 31)
  have hbx : (W.alloc (.cells #[.int .u8 κ, .string A, .string C, .slice ba m bc, .int .i64 N] 31)).heap[W.heap.size]? = some (.cells #[.int .u8 κ, .string A, .string C, .slice ba m bc, .int .i64 N] 31 (0, 0)) := heap_alloc_new W _
  have HBX := Lib.hid bX
  have HXX := Lib.hid hbx
  have HX := Lib.hid hx
  have HQ := Lib.hid (fun (w : World) (t : Touch (W.alloc (.cells #[.int .u8 κ, .string A, .string C, .slice ba m bc, .int .i64 N] 31)) w (S.mine d)) => hx.ref bX t)
  have HP := Lib.hid (fun (w : World) (t : Touch (W.alloc (.cells #[.int .u8 κ, .string A, .string C, .slice ba m bc, .int .i64 N] 31)) w [r]) => hx.prog bX t)
  have HD1 := Lib.hid (hx.dk.below bX)
  have hxs := hx.fresh
  clear bX hbx hx
  go_enter Try.func12, Try.ntmps12
  go_wp2_with (go_at_call 23; go_must (refine (HP.out _ (Touch.refl _ _)).syncdir.mono ?_))
  rintro e w7 ⟨rfl, t7, T, hT, hd7⟩
  have HR := Lib.hid (HQ.out w7 t7).syncdir
  have HT7 := Lib.hid t7
  have HT := Lib.hid hT
  have HD7 := Lib.hid hd7
  clear t7 hT hd7
  go_wp2_with (go_at_call 31; go_must (refine HR.out.mono ?_))
  rintro e w8 ⟨⟨z8, rfl⟩, t8⟩
  have HE := Lib.hid (HX.out.ends HBX.out (.inl ⟨HT7.out, t8, rfl⟩) HD7.out)
  clear t8
  go_wp2
  go_ret
  exact ⟨⟨_, rfl⟩, T, HT.out, HE.out.1, HE.out.2⟩
end Go.Proofs.Ytbhapbioibhalaa

namespace Go.Proofs.Ytbhapbioibhalaa
open Go Go.RowKit Go.Maps

set_option maxRecDepth 100000 in
set_option maxHeartbeats 8000000 in
theorem do7_any (W : World) (B d r : Nat) (S : Dk) (κ : Int) (A C : ByteArray) (ba : Option Addr) (m bc : Nat) (l : List UInt8) (N : Int) (hx : DoArgs W B d r S A C ba m bc l) (hκ : 0 ≤ κ ∧ κ ≤ 255) (hk : κ % 9 = 7) (hN : -9223372036854775808 ≤ N ∧ N ≤ 9223372036854775807) :
    Calls Try.prog 12 #[.pointer (some ⟨d, 0, none⟩), .pointer (some ⟨r, 0, none⟩), .agg #[.int .u8 κ, .string A, .string C, .slice ba m bc, .int .i64 N]] W (DoEnd W B d r S (fun T => T = { S with fuse := N })) := by
  have bX := (Below.refl W.heap.size W).alloc (Nat.le_refl _) (.cells #[.int .u8 κ, .string A, .string C, .slice ba m bc, .int .i64 N] 31)
  have hbx : (W.alloc (.cells #[.int .u8 κ, .string A, .string C, .slice ba m bc, .int .i64 N] 31)).heap[W.heap.size]? = some (.cells #[.int .u8 κ, .string A, .string C, .slice ba m bc, .int .i64 N] 31 (0, 0)) := heap_alloc_new W _
  have HBX := Lib.hid bX
  have HXX := Lib.hid hbx
  have HX := Lib.hid hx
  have HQ := Lib.hid (fun (w : World) (t : Touch (W.alloc (.cells #[.int .u8 κ, .string A, .string C, .slice ba m bc, .int .i64 N] 31)) w (S.mine d)) => hx.ref bX t)
  have HP := Lib.hid (fun (w : World) (t : Touch (W.alloc (.cells #[.int .u8 κ, .string A, .string C, .slice ba m bc, .int .i64 N] 31)) w [r]) => hx.prog bX t)
  have HD1 := Lib.hid (hx.dk.below bX)
  have hxs := hx.fresh
  clear bX hbx hx
  go_enter Try.func12, Try.ntmps12
  have HFu := Lib.hid (fuse_any HD1.out N hN)
  go_wp2_with (go_at_call 25; go_must (refine HFu.out.mono ?_))
  rintro e w7 ⟨rfl, t7, hd7⟩
  have HR := Lib.hid ((HQ.out w7 t7).fuse N)
  have q7 := t7.keep HXX.out hxs.1
  have u4 := Lib.cell_of_heap q7 4
  simp at u4
  have l7 : W.heap.size < w7.heap.size := (Array.getElem?_eq_some_iff.1 q7).1
  have HT7 := Lib.hid t7
  have HD7 := Lib.hid hd7
  clear t7 hd7 q7
  go_wp2_with (go_at_call 34; go_must (refine HR.out.mono ?_))
  rintro e w8 ⟨rfl, t8⟩
  have HE := Lib.hid (HX.out.ends HBX.out (.inl ⟨HT7.out, t8, rfl⟩) HD7.out)
  clear t8
  go_wp2
  go_ret
  exact ⟨⟨_, rfl⟩, _, rfl, HE.out.1, HE.out.2⟩
end Go.Proofs.Ytbhapbioibhalaa

namespace Go.Proofs.Ytbhapbioibhalaa
open Go Go.RowKit Go.Maps

def kB : ByteArray := ⟨#[107, 101, 112, 116]⟩
theorem kB_ok : nameOk kB = true := by decide
def offK : DAct → Prop
  | .add t _ => t ≠ kB
  | .mv f t => f ≠ kB ∧ t ≠ kB
  | .rm f => f ≠ kB

theorem fileOf_step {l : Dir} (h : UpD l) {a : DAct} (ha : offK a) : fileOf (stepA l a) kB = fileOf l kB := by
  cases a with
  | add t g =>
    show fileOf (putD l t g) kB = _
    rw [fileOf_put h, if_neg (fun e => ha e.symm)]
  | mv f t =>
    show fileOf (match fileOf l f with | some g => putD (delD l f) t g | none => delD l f) kB = _
    cases fileOf l f with
    | none => rw [fileOf_del h, if_neg (fun e => ha.1 e.symm)]
    | some g => rw [fileOf_put (h.del f), if_neg (fun e => ha.2 e.symm), fileOf_del h, if_neg (fun e => ha.1 e.symm)]
  | rm f =>
    show fileOf (delD l f) kB = _
    rw [fileOf_del h, if_neg (fun e => ha e.symm)]
theorem fileOf_run : ∀ {xs : List DAct} {l : Dir}, Lone l → okAs l xs → (∀ a ∈ xs, offK a) → fileOf (runA l xs) kB = fileOf l kB
  | [], _, _, _, _ => rfl
  | a :: r, l, hl, ho, hk => by
    have := fileOf_run (xs := r) (l := stepA l a) (hl.step ho.1) ho.2 (fun x hx => hk x (List.mem_cons_of_mem _ hx))
    rw [fileOf_step hl.1 (hk a List.mem_cons_self)] at this
    exact this

/-- The file kept is safe. -/
structure KInv (S : Dk) (g : Nat) (b : List UInt8) (c : Nat) : Prop where
  sf : fileOf S.safe kB = some g
  ac : ∀ a ∈ S.acts, offK a
  fd : ∃ rest, (S.fl g).data = b ++ rest
  fs : b.length ≤ (S.fl g).safe
  gl : S.gs.length ≤ c
  al : S.acts.length ≤ c

variable {S T : Dk} {W : World} {B d g c : Nat} {b : List UInt8}

theorem KInv.mono (h : KInv S g b c) {c' : Nat} (hc : c ≤ c') : KInv S g b c' := ⟨h.sf, h.ac, h.fd, h.fs, Nat.le_trans h.gl hc, Nat.le_trans h.al hc⟩
theorem KInv.burn (h : KInv S g b c) : KInv S.burn g b c := by
  rw [burn_same S]
  exact ⟨h.sf, h.ac, h.fd, h.fs, h.gl, h.al⟩
theorem KInv.dir (h : KInv S g b c) (hd : DAt W B d S) : fileOf S.dir kB = some g := by
  rw [hd.now, fileOf_run hd.lone hd.oks h.ac]
  exact h.sf
theorem KInv.turn (h : KInv S g b c) {a : DAct} (ha : offK a) (ht : TurnS S a T) : KInv T g b (c + 1) := by
  rcases ht with ⟨_, rfl⟩ | ⟨_, v', rfl⟩
  · exact h.burn.mono (Nat.le_succ _)
  · obtain ⟨e1, e2, e3, e4, e5, e6, e7, e8, e9, e10⟩ := burn_eqs S
    refine ⟨by show fileOf S.burn.safe kB = _; rw [e5]; exact h.sf, fun x hx => ?_, by show ∃ rest, (S.burn.fl g).data = _; rw [e9]; exact h.fd, by show _ ≤ (S.burn.fl g).safe; rw [e9]; exact h.fs, by show S.burn.gs.length ≤ _; rw [e7]; exact Nat.le_succ_of_le h.gl, by show (S.acts ++ [a]).length ≤ _; rw [List.length_append]; exact Nat.succ_le_succ h.al⟩
    rcases List.mem_append.1 hx with hx | hx
    · exact h.ac x hx
    · rw [List.mem_singleton.1 hx]
      exact ha
theorem KInv.create (h : KInv S g b c) (hg : g ∈ S.gs) (hd : DAt W B d S) {wq : World} (hq : W.heap.size ≤ wq.heap.size) {n : ByteArray} (hn : n ≠ kB) (hc : CreateS wq S n T) : KInv T g b (c + 2) := by
  rcases hc with ⟨rfl, _⟩ | ⟨_, _, _, g', hg', ht⟩
  · exact h.mono (by omega)
  · have hne : g ≠ g' := by
      have := (hd.lt g (Dk.mine_g hg)).1
      omega
    have ha : KInv (S.addF g') g b (c + 1) := ⟨h.sf, h.ac, by show ∃ rest, (updF S.fl g' _ g).data = _; rw [updF_other _ _ hne]; exact h.fd, by show _ ≤ (updF S.fl g' _ g).safe; rw [updF_other _ _ hne]; exact h.fs, by show (g' :: S.gs).length ≤ _; rw [List.length_cons]; exact Nat.succ_le_succ h.gl, Nat.le_succ_of_le h.al⟩
    exact ha.turn (a := .add n g') hn ht
theorem KInv.act (h : KInv S g b c) {n : ByteArray} {a : DAct} {z : Int} (ha : offK a) (hs : ActS S n a z T) : KInv T g b (c + 1) := by
  rcases hs with ⟨rfl, _⟩ | ⟨_, _, _, ht⟩
  · exact h.mono (Nat.le_succ _)
  · exact h.turn ha ht
theorem KInv.file (h : KInv S g b c) {n : ByteArray} {z : Int} {f : Fl → Fl} (hf : ∀ x, b.length ≤ x.safe → (∃ rest, x.data = b ++ rest) → x.safe ≤ x.data.length → b.length ≤ (f x).safe ∧ ∃ rest, (f x).data = b ++ rest) (hd : DAt W B d S) (hgin : g ∈ S.gs) (hs : FileS S n z f T) : KInv T g b c := by
  rcases hs with ⟨rfl, _⟩ | ⟨g', _, _, ht⟩
  · exact h
  · rcases ht with ⟨_, rfl⟩ | ⟨_, v, rfl⟩
    · exact h.burn
    · have hb := h.burn
      have hx := hf (S.fl g) h.fs h.fd (hd.fs g hgin).2.2.1
      refine ⟨hb.sf, hb.ac, ?_, ?_, hb.gl, hb.al⟩
      · show ∃ rest, (updF S.fl g' (f (S.fl g')) g).data = _
        by_cases e : g = g'
        · subst e
          rw [updF_same]
          exact hx.2
        · rw [updF_other _ _ e]
          exact h.fd
      · show _ ≤ (updF S.fl g' (f (S.fl g')) g).safe
        by_cases e : g = g'
        · subst e
          rw [updF_same]
          exact hx.1
        · rw [updF_other _ _ e]
          exact h.fs
theorem KInv.syncdir (h : KInv S g b c) (hd : DAt W B d S) (hs : SyncDirS S T) : KInv T g b c := by
  rcases hs with ⟨rfl, _⟩ | ⟨_, _, rfl⟩ | ⟨_, _, rfl⟩
  · exact h
  · exact h.burn
  · obtain ⟨e1, e2, e3, e4, e5, e6, e7, e8, e9, e10⟩ := burn_eqs S
    exact ⟨by show fileOf S.burn.dir kB = _; rw [e4]; exact h.dir hd, (fun _ hx => by cases hx), by show ∃ rest, (S.burn.fl g).data = _; rw [e9]; exact h.fd, by show _ ≤ (S.burn.fl g).safe; rw [e9]; exact h.fs, by show S.burn.gs.length ≤ _; rw [e7]; exact h.gl, Nat.zero_le _⟩

/-- One thing done: by kind. -/
def KActOk (κ : Int) (A C : ByteArray) : Prop := (A ≠ kB ∨ κ % 9 = 1 ∨ κ % 9 = 3) ∧ C ≠ kB ∧ κ % 9 ≠ 8

theorem do_keeps (W : World) (B d r : Nat) (S : Dk) (κ : Int) (A C : ByteArray) (ba : Option Addr) (m bc : Nat) (l : List UInt8) (N : Int) (hx : DoArgs W B d r S A C ba m bc l) (hκ : 0 ≤ κ ∧ κ ≤ 255) (hN : -9223372036854775808 ≤ N ∧ N ≤ 9223372036854775807)
    (hk : KActOk κ A C) (hi : KInv S g b c) (hgin : g ∈ S.gs) :
    Calls Try.prog 12 #[.pointer (some ⟨d, 0, none⟩), .pointer (some ⟨r, 0, none⟩), .agg #[.int .u8 κ, .string A, .string C, .slice ba m bc, .int .i64 N]] W (DoEnd W B d r S (fun T => KInv T g b (c + 2))) := by
  have hways : κ % 9 = 0 ∨ κ % 9 = 1 ∨ κ % 9 = 2 ∨ κ % 9 = 3 ∨ κ % 9 = 4 ∨ κ % 9 = 5 ∨ κ % 9 = 6 ∨ κ % 9 = 7 := by
    have := hk.2.2
    omega
  have hA : ¬ (κ % 9 = 1 ∨ κ % 9 = 3) → A ≠ kB := fun h => hk.1.resolve_right h
  rcases hways with h | h | h | h | h | h | h | h
  · exact (do0_any W B d r S κ A C ba m bc l N hx hκ h).mono fun _ _ ⟨h1, T, ⟨wq, hq, h2⟩, h3, h4⟩ => ⟨h1, T, hi.create hgin hx.dk hq (hA (by omega)) h2, h3, h4⟩
  · exact (do1_any W B d r S κ A C ba m bc l N hx hκ h).mono fun _ _ ⟨h1, T, h2, h3, h4⟩ => ⟨h1, T, (hi.file (f := fun f => ⟨f.data ++ l, f.safe⟩) (fun x k1 ⟨rest, k2⟩ _ => ⟨k1, rest ++ l, by show x.data ++ l = _; rw [k2, List.append_assoc]⟩) hx.dk hgin h2).mono (by omega), h3, h4⟩
  · exact (do2_any W B d r S κ A C ba m bc l N hx hκ h).mono fun _ _ ⟨h1, T, h2, h3, h4⟩ => ⟨h1, T, by rw [h2]; exact hi.mono (by omega), h3, h4⟩
  · exact (do3_any W B d r S κ A C ba m bc l N hx hκ h).mono fun _ _ ⟨h1, T, h2, h3, h4⟩ => ⟨h1, T, (hi.file (f := fun f => ⟨f.data, f.data.length⟩) (fun x k1 k2 k3 => ⟨Nat.le_trans k1 k3, k2⟩) hx.dk hgin h2).mono (by omega), h3, h4⟩
  · exact (do4_any W B d r S κ A C ba m bc l N hx hκ h).mono fun _ _ ⟨h1, T, h2, h3, h4⟩ => ⟨h1, T, (hi.syncdir hx.dk h2).mono (by omega), h3, h4⟩
  · exact (do5_any W B d r S κ A C ba m bc l N hx hκ h).mono fun _ _ ⟨h1, T, h2, h3, h4⟩ => ⟨h1, T, (hi.act (a := .mv A C) ⟨hA (by omega), hk.2.1⟩ h2).mono (by omega), h3, h4⟩
  · exact (do6_any W B d r S κ A C ba m bc l N hx hκ h).mono fun _ _ ⟨h1, T, h2, h3, h4⟩ => ⟨h1, T, (hi.act (a := .rm A) (hA (by omega)) h2).mono (by omega), h3, h4⟩
  · exact (do7_any W B d r S κ A C ba m bc l N hx hκ h hN).mono fun _ _ ⟨h1, T, h2, h3, h4⟩ => ⟨h1, T, by rw [h2]; exact ⟨hi.sf, hi.ac, hi.fd, hi.fs, Nat.le_trans hi.gl (by omega), Nat.le_trans hi.al (by omega)⟩, h3, h4⟩
end Go.Proofs.Ytbhapbioibhalaa

namespace Go.Proofs.Ytbhapbioibhalaa
open Go Go.RowKit Go.Joins Go.WideShapes Go.ChangeShapes Go.ChangeAt Go.Deep

structure LAct where
  (k : Nat) (A C : ByteArray) (a : Option Addr) (cap : Nat) (bs : List UInt8) (n : Int)

def lacell (x : LAct) : List Value := [.int .u8 (x.k : Int), .string x.A, .string x.C, .slice x.a x.bs.length x.cap, .int .i64 x.n]
theorem lacell_length (x : LAct) : (lacell x).length = 5 := rfl
def InI64 (z : Int) : Prop := -9223372036854775808 ≤ z ∧ z ≤ 9223372036854775807
def LAct.fits (w : World) (x : LAct) : Prop := x.k < 256 ∧ InI64 x.n ∧ Reads w 1 (.slice x.a x.bs.length x.cap) x.bs.length (bcells x.bs)

/-- A row of acts. -/
def LActsAt (w : World) (a : Option Addr) (len cap : Nat) (l : List LAct) : Prop := l.length = len ∧ Reads w 5 (.slice a len cap) len (l.flatMap lacell) ∧ ∀ x ∈ l, x.fits w

theorem LActsAt.below {w w' : World} {a : Option Addr} {len cap : Nat} {l : List LAct} (h : LActsAt w a len cap l) (b : Below w.heap.size w w') : LActsAt w' a len cap l :=
  ⟨h.1, h.2.1.below' b, fun x hx => by obtain ⟨h1, h2, h3⟩ := h.2.2 x hx; exact ⟨h1, h2, h3.below' b⟩⟩

theorem LActsAt.at {w : World} {a : Option Addr} {len cap : Nat} {l : List LAct} (h : LActsAt w a len cap l) {i : Nat} {x : LAct} (hx : l[i]? = some x) :
    x.fits w ∧ ∃ g off, a = some ⟨g, off, none⟩ ∧ g < w.heap.size ∧ w.cell? ⟨g, off + i * 5, none⟩ = some (.int .u8 (x.k : Int)) ∧ w.cell? ⟨g, off + i * 5 + 1, none⟩ = some (.string x.A) ∧ w.cell? ⟨g, off + i * 5 + 2, none⟩ = some (.string x.C) ∧ w.cell? ⟨g, off + i * 5 + 3, none⟩ = some (.slice x.a x.bs.length x.cap) ∧ w.cell? ⟨g, off + i * 5 + 4, none⟩ = some (.int .i64 x.n) := by
  refine ⟨h.2.2 x (List.mem_of_getElem? hx), ?_⟩
  have hc : ∀ j, j < 5 → (l.flatMap lacell)[i * 5 + j]? = (lacell x)[j]? := flat_cell lacell 5 lacell_length l i x hx
  obtain ⟨g, off, ha, hg, c0⟩ := h.2.1.at (hc 0 (by decide))
  obtain ⟨g1, off1, ha1, _, c1⟩ := h.2.1.at (hc 1 (by decide))
  obtain ⟨g2, off2, ha2, _, c2⟩ := h.2.1.at (hc 2 (by decide))
  obtain ⟨g3, off3, ha3, _, c3⟩ := h.2.1.at (hc 3 (by decide))
  obtain ⟨g4, off4, ha4, _, c4⟩ := h.2.1.at (hc 4 (by decide))
  rw [ha] at ha1 ha2 ha3 ha4
  cases ha1
  cases ha2
  cases ha3
  cases ha4
  exact ⟨g, off, ha, hg, c0, c1, c2, c3, c4⟩

section
variable {H : Type} {enc : TypeId × Value → H} {w : World} {base : Nat} {spare : Nat → Bool} {held : Bool}

theorem trod_struct5 {P : Program} {t : TypeId} {f0 f1 f2 f3 f4 : Field} {fuel : Nat} {cs : List Value} {x : DataW H × List MemPlace} (ht : P.underlying t = some (.struct #[f0, f1, f2, f3, f4])) (h : DataW.trod enc P w base spare held fuel t cs = some x) :
    ∃ y0 y1 y2 y3 y4 n, DataW.trod enc P w base spare held n f0.type ((cs.drop f0.offset).take (P.cellsOf f0.type)) = some y0 ∧
      DataW.trod enc P w base spare held n f1.type ((cs.drop f1.offset).take (P.cellsOf f1.type)) = some y1 ∧ DataW.trod enc P w base spare held n f2.type ((cs.drop f2.offset).take (P.cellsOf f2.type)) = some y2 ∧
      DataW.trod enc P w base spare held n f3.type ((cs.drop f3.offset).take (P.cellsOf f3.type)) = some y3 ∧ DataW.trod enc P w base spare held n f4.type ((cs.drop f4.offset).take (P.cellsOf f4.type)) = some y4 := by
  obtain ⟨xs, n, _, rfl, hl, hlen, hf⟩ := DataW.trod_struct ht h
  match xs, hlen with
  | [y0, y1, y2, y3, y4], _ => exact ⟨y0, y1, y2, y3, y4, n, by simpa using hf 0 f0 rfl, by simpa using hf 1 f1 rfl, by simpa using hf 2 f2 rfl, by simpa using hf 3 f3 rfl, by simpa using hf 4 f4 rfl⟩

theorem oneS {n : Nat} {c : Value} {y : DataW H × List MemPlace} (h : DataW.trod enc Try.prog w base spare held n 9 [c] = some y) : ∃ s : ByteArray, c = .string s := by
  obtain ⟨s, e, _, hs⟩ := DataW.trod_string Try.underlying9 h
  simp only [List.cons.injEq, and_true] at e
  exact ⟨s, e⟩
theorem oneI {n : Nat} {c : Value} {y : DataW H × List MemPlace} (h : DataW.trod enc Try.prog w base spare held n 3 [c] = some y) : ∃ m : Int, c = .int .i64 m ∧ InI64 m := by
  obtain ⟨k, e, _, hw⟩ := DataW.trod_int Try.underlying3 h
  simp only [List.cons.injEq, and_true] at e
  have bd : -9223372036854775808 ≤ k ∧ k ≤ 9223372036854775807 := by simpa [Lit.wf, IntKind.min, IntKind.max, IntKind.signed, IntKind.bits] using hw
  exact ⟨k, e, bd⟩
theorem oneB {n : Nat} {c : Value} {y : DataW H × List MemPlace} (h : DataW.trod enc Try.prog w base spare held n 5 [c] = some y) : ∃ m : UInt8, c = .int .u8 (m.toNat : Int) := by
  obtain ⟨k, e, _, hw⟩ := DataW.trod_int Try.underlying5 h
  simp only [List.cons.injEq, and_true] at e
  have bd : 0 ≤ k ∧ k ≤ 255 := by simpa [Lit.wf, IntKind.min, IntKind.max, IntKind.signed, IntKind.bits] using hw
  obtain ⟨m, rfl⟩ := Int.eq_ofNat_of_zero_le bd.1
  refine ⟨UInt8.ofNat m, ?_⟩
  rw [e]
  simp
  omega

set_option maxRecDepth 100000 in
theorem lacts_open {r : Reach} {b0 : Nat} {v : Value} {d : DataW H} {p : List MemPlace} (hv : Value.okWide Try.prog w r b0 22 v) (h : DataW.Trod enc Try.prog w base spare held 22 v d p) :
    ∃ a len cap l, v = .slice a len cap ∧ len ≤ maxLen ∧ LActsAt w a len cap l := by
  have : Inhabited LAct := ⟨⟨0, ⟨#[]⟩, ⟨#[]⟩, none, 0, [], 0⟩⟩
  have k1 : Try.prog.cellsOf 5 = 1 := by kernel_rfl
  have k2 : Try.prog.cellsOf 3 = 1 := by kernel_rfl
  have k3 : Try.prog.cellsOf 29 = 1 := by kernel_rfl
  have k4 : Try.prog.cellsOf 9 = 1 := by kernel_rfl
  obtain ⟨a, len, cap, l, rfl, h1, h2, h3, h4, h5⟩ := slice_rows lacell (fun x => x.fits w) Try.underlying22 (by kernel_rfl) (by decide) lacell_length (fun n cs y hl ht => by
    obtain ⟨y0, y1, y2, y3, y4, m, h0, h1, h2, h3, h4⟩ := trod_struct5 Try.underlying31 ht
    match cs, hl with
    | [d0, d1, d2, d3, d4], _ =>
      rw [k1] at h0
      rw [k4] at h1 h2
      rw [k3] at h3
      rw [k2] at h4
      simp at h0 h1 h2 h3 h4
      obtain ⟨k, rfl⟩ := oneB h0
      obtain ⟨f, rfl⟩ := oneS h1
      obtain ⟨b, rfl⟩ := oneS h2
      obtain ⟨z, rfl, hz⟩ := oneI h4
      obtain ⟨a, len, cap, l, rfl, _, _, hn, hq, hr⟩ := slice_rows_of (fun x : UInt8 => [Value.int .u8 (x.toNat : Int)]) (fun _ => True) Try.underlying29 (by kernel_rfl) (by decide) (fun _ => rfl) (fun n cs y hl ht => by
        obtain ⟨c, rfl⟩ : ∃ c, cs = [c] := by
          match cs, hl with
          | [c], _ => exact ⟨c, rfl⟩
        obtain ⟨s, rfl⟩ := oneB ht
        exact ⟨s, rfl, trivial⟩) h3
      subst hn
      rw [show (l.flatMap fun x : UInt8 => [Value.int .u8 (x.toNat : Int)]) = bcells l by unfold bcells; rw [List.map_eq_flatMap]] at hr
      have hk256 : k.toNat < 256 := k.toNat_lt
      exact ⟨⟨k.toNat, f, b, a, cap, l, z⟩, rfl, hk256, hz, hr⟩) hv h
  exact ⟨a, len, cap, l, rfl, by omega, h3, h5, h4⟩
end

def okL (x : LAct) : Bool := decide (x.bs.length ≤ 300) && decide (x.A.size ≤ 60) && decide (x.C.size ≤ 60)
def fewL (l : List LAct) : Bool := l.all okL && decide (l.length ≤ 120)
def FewRel (w : World) (l : List LAct) (i : Value) (wr : World) : Prop := ∃ k : Nat, i = .int .i64 (k : Int) ∧ k ≤ l.length ∧ (l.take k).all okL = true ∧ Below w.heap.size w wr
theorem all_succ {α : Type} {l : List α} {k : Nat} {x : α} (p : α → Bool) (h : l[k]? = some x) : (l.take (k + 1)).all p = ((l.take k).all p && p x) := by
  rw [List.take_add_one, List.all_append, h]; simp
theorem all_out {α : Type} {l : List α} {k : Nat} {x : α} (p : α → Bool) (h : l[k]? = some x) (hp : p x = false) : l.all p = false := List.all_eq_false.2 ⟨x, List.mem_of_getElem? h, by rw [hp]; decide⟩

set_option maxRecDepth 100000 in
set_option maxHeartbeats 4000000 in
theorem fewL_any (w : World) (a : Option Addr) (len cap : Nat) (l : List LAct) (h : LActsAt w a len cap l) (hl : len ≤ maxLen) :
    Calls Try.prog 9 #[.slice a len cap] w (GivesBool w (fewL l)) := by
  have hlen := h.1
  have HA := Lib.hid h
  have HL := Lib.hid hlen
  unfold maxLen at hl
  clear h hlen
  go_enter Try.func9, Try.ntmps9
  go_wp2
  go_loopw [7] (fun i wr => FewRel w l i wr) (fun i _ => len - (intOf i).toNat)
  case atStart => exact ⟨0, rfl, Nat.zero_le _, rfl, Below.refl _ _⟩
  case round =>
    rename World => wr
    obtain ⟨k, rfl, hk, hall, hb⟩ := hrel
    rw [HL.out] at hk
    have HB := Lib.hid hb
    have HAll := Lib.hid hall
    clear hb hall
    by_cases hlt : k < len
    · have hltI : (k : Int) < len := by omega
      obtain ⟨x, hx⟩ : ∃ x, l[k]? = some x := ⟨_, List.getElem?_eq_getElem (by rw [HL.out]; exact hlt)⟩
      obtain ⟨hfit, g, off, rfl, hg, k0, k1, k2, k3, k4⟩ := (HA.out.below HB.out).at hx
      have hsucc := all_succ okL hx
      have hfalse := all_out okL hx
      have HSucc := Lib.hid hsucc
      have HFalse := Lib.hid hfalse
      have HBn := Lib.hid (HB.out.alloc HB.out.size (.cells (lacell x).toArray 31))
      clear hsucc hfalse hx hfit
      obtain ⟨xk, xA, xC, xa, xc, xb, xn⟩ := x
      simp only [lacell] at k0 k1 k2 k3 k4 HBn
      by_cases h1 : xb.length ≤ 300
      · have i1 : ¬ (300 : Int) < (xb.length : Int) := by omega
        by_cases h2 : xA.size ≤ 60
        · have i2 : ¬ (60 : Int) < (xA.size : Int) := by omega
          by_cases h3 : xC.size ≤ 60
          · have i3 : ¬ (60 : Int) < (xC.size : Int) := by omega
            have hok : okL ⟨xk, xA, xC, xa, xc, xb, xn⟩ = true := by simp [okL, h1, h2, h3]
            have HOk := Lib.hid hok
            clear h1 h2 h3 hok
            go_wp2
            exact ⟨⟨k + 1, by go_num, by rw [HL.out]; exact hlt, by rw [HSucc.out, HAll.out, HOk.out]; rfl, HBn.out⟩, by simp [intOf]; omega⟩
          · have i3 : (60 : Int) < (xC.size : Int) := by omega
            have hok : okL ⟨xk, xA, xC, xa, xc, xb, xn⟩ = false := by simp [okL, h3]
            have HOk := Lib.hid hok
            clear h1 h2 h3 hok
            go_wp2
            go_ret
            refine ⟨?_, HBn.out⟩
            unfold fewL
            rw [HFalse.out HOk.out]
            rfl
        · have i2 : (60 : Int) < (xA.size : Int) := by omega
          have hok : okL ⟨xk, xA, xC, xa, xc, xb, xn⟩ = false := by simp [okL, h2]
          have HOk := Lib.hid hok
          clear h1 h2 hok
          go_wp2
          go_ret
          refine ⟨?_, HBn.out⟩
          unfold fewL
          rw [HFalse.out HOk.out]
          rfl
      · have i1 : (300 : Int) < (xb.length : Int) := by omega
        have hok : okL ⟨xk, xA, xC, xa, xc, xb, xn⟩ = false := by simp [okL, h1]
        have HOk := Lib.hid hok
        clear h1 hok
        go_wp2
        go_ret
        refine ⟨?_, HBn.out⟩
        unfold fewL
        rw [HFalse.out HOk.out]
        rfl
    · obtain rfl : k = len := by omega
      have hltI : ¬ (k : Int) < k := by omega
      have hal : l.all okL = true := by have := HAll.out; rwa [List.take_of_length_le (by rw [HL.out]; exact Nat.le_refl _)] at this
      have hf : fewL l = decide ((k : Int) ≤ 120) := by
        unfold fewL
        rw [hal, HL.out, Bool.true_and]
        simp
        omega
      have HF := Lib.hid hf
      clear hf hal
      go_wp2
      go_ret
      rw [HF.out]
      exact ⟨rfl, HB.out⟩
end Go.Proofs.Ytbhapbioibhalaa

namespace Go.Proofs.Ytbhapbioibhalaa
open Go Go.RowKit Go.Maps

/-- A file that begins with b, all of it safe. -/
def Begins (b : List UInt8) (f : Fl) : Prop := b.length ≤ f.safe ∧ f.safe ≤ f.data.length ∧ ∃ rest, f.data = b ++ rest
theorem Begins.cut {b : List UInt8} {f : Fl} (h : Begins b f) (m : Nat) (hm : m ≤ f.data.length - f.safe) : Begins b ⟨f.data.take (f.safe + m), f.safe + m⟩ := by
  obtain ⟨h1, h2, rest, h3⟩ := h
  refine ⟨by show b.length ≤ f.safe + m; omega, by show f.safe + m ≤ (f.data.take (f.safe + m)).length; rw [List.length_take]; omega, rest.take (f.safe + m - b.length), ?_⟩
  show f.data.take (f.safe + m) = _
  rw [h3, List.take_append, List.take_of_length_le (by omega)]
theorem cutAll_begins {b : List UInt8} {g : Nat} : ∀ (l : Dir) (fl : Nat → Fl) (keep : List UInt8), Begins b (fl g) → Begins b (cutAll fl l keep g)
  | [], _, _, h => h
  | p :: l, fl, keep, h => by
    rw [cutAll_cons]
    refine cutAll_begins l _ _ ?_
    unfold cutFl
    by_cases e : g = p.2
    · rw [← e, updF_same]
      exact h.cut _ (nextE_le _ _)
    · rw [updF_other _ _ e]
      exact h

def RNewP (W : World) (e : Ending) (W' : World) : Prop := e = .returned (.pointer (some ⟨W.heap.size, 0, none⟩)) ∧ Below W.heap.size W W' ∧ R0 W' W.heap.size

theorem rnewp_any (W : World) : Calls Try.prog 11 #[.int .i64 0] W (RNewP W) := rnew0 W

def KpRel (w2 : World) (D g ln : Nat) (b : List UInt8) (iv : Value) (wr : World) : Prop :=
  ∃ (i : Nat) (T : Dk), iv = .int .i64 (i : Int) ∧ i ≤ ln ∧ DAt wr w2.heap.size D T ∧ KInv T g b (2 * i + 1) ∧ Below w2.heap.size w2 wr

theorem arg_far {W : World} {a : Option Addr} {n c : Nat} {l : List UInt8} (h : Reads W 1 (.slice a n c) n (bcells l)) (hne : l ≠ []) {x : Nat} (hx : (Value.slice a n c).ownBlock = some x) : x < W.heap.size := by
  cases l with
  | nil => exact absurd rfl hne
  | cons d r =>
    obtain ⟨b, off, hka, hb, _⟩ := h.at (j := 0) (u := .int .u8 (d.toNat : Int)) rfl
    subst hka
    simp [Value.ownBlock] at hx
    rw [← hx]
    exact hb

theorem kB_list (s : ByteArray) : s.toList = [107, 101, 112, 116] ↔ s = kB := by
  have hk : kB.toList = [107, 101, 112, 116] := by rw [Go.ByteArray.toList_eq]; rfl
  rw [← hk, Go.ByteArray.toList_eq, Go.ByteArray.toList_eq]
  exact ⟨fun e => Go.WideShapes.bytes_inj e, fun e => by rw [e]⟩
theorem kB_beq (s : ByteArray) : (s.toList == [107, 101, 112, 116]) = decide (s = kB) := by
  by_cases h : s = kB
  · rw [decide_eq_true h, (kB_list s).2 h]
    rfl
  · rw [decide_eq_false h, beq_eq_false_iff_ne]
    exact fun e => h ((kB_list s).1 e)

theorem found_of {S : Dk} {s : ByteArray} {g : Nat} (hd : S.down = false) (hn : nameOk s = true) (hf : fileOf S.dir s = some g) : findR S s = (some g, 0) := by
  unfold findR
  rw [if_neg (by simp [readyE, hd, hn]), hf]

def CrashP (W : World) (B d : Nat) (S : Dk) (l : List UInt8) (e : Ending) (w' : World) : Prop := e = .returned (.tuple #[]) ∧ Touch W w' (S.mine d) ∧ ∃ T, CrashS S l T ∧ DAt w' B d T
theorem crashp_any {W : World} {B d : Nat} {S : Dk} (h : DAt W B d S) (v : Value) (l : List UInt8) (hr : Reads W 1 v l.length (bcells l)) (hg : S.gs.length ≤ 1000000) (hn : S.acts.length ≤ 1000000) (hv : l ≠ [] → ∀ x, v.ownBlock = some x → x ∉ S.mine d) :
    Calls Try.prog 24 #[.pointer (some ⟨d, 0, none⟩), v] W (CrashP W B d S l) := crash_any h v l hr hg hn hv

theorem KInv.crashed {S T : Dk} {W : World} {B d g c : Nat} {b kp : List UInt8} (h : KInv S g b c) (hd : DAt W B d S) (hc : CrashS S kp T) : findR T kB = (some g, 0) ∧ ∃ rest, (T.fl g).data = b ++ rest := by
  have hgin : g ∈ S.gs := hd.mem.1 _ (fileOf_mem h.sf)
  have hx : Begins b (S.fl g) := ⟨h.fs, (hd.fs g hgin).2.2.1, h.fd⟩
  have hf : fileOf (crashD S kp) kB = some g := by
    unfold crashD
    rw [fileOf_run hd.lone (okAs_take _ hd.oks) (fun a ha => h.ac a (List.mem_of_mem_take ha))]
    exact h.sf
  obtain ⟨mf', sl', rfl⟩ := hc
  exact ⟨found_of rfl kB_ok hf, (cutAll_begins (crashD S kp) S.fl kp.tail hx).2.2⟩

/-- do, at a reference just made. -/
theorem do_round {w2 wr w1 W : World} {D g i : Nat} {T : Dk} {b : List UInt8} {x : LAct} (hW : W.heap.size ≤ w2.heap.size) (hf : x.fits W) (bW : Below W.heap.size W wr) (hx : okL x = true) (hi : i ≤ 120) (κ : Int) (hκ : 0 ≤ κ ∧ κ ≤ 255) (hk : KActOk κ x.A x.C)
    (hd : DAt wr w2.heap.size D T) (hinv : KInv T g b (2 * i + 1)) (b1 : Below wr.heap.size wr w1) (w8 : World) (r : Nat) (hr : r = w1.heap.size) (b8 : Below w1.heap.size w1 w8) (r8 : R0 w8 r) :
    Calls Try.prog 12 #[.pointer (some ⟨D, 0, none⟩), .pointer (some ⟨r, 0, none⟩), .agg #[.int .u8 κ, .string x.A, .string x.C, .slice x.a x.bs.length x.cap, .int .i64 x.n]] w8 (DoEnd w8 w2.heap.size D r T (fun T' => KInv T' g b (2 * (i + 1) + 1))) := by
  have b18 : Below wr.heap.size wr w8 := b1.trans (b8.mono b1.size)
  unfold okL at hx
  rw [Bool.and_eq_true, Bool.and_eq_true, decide_eq_true_eq, decide_eq_true_eq, decide_eq_true_eq] at hx
  have hal := hinv.al
  have hgl := hinv.gl
  have hs1 := b1.size
  have hdb := (hd.lt D (Dk.mine_d D T))
  refine (do_keeps w8 w2.heap.size D r T κ x.A x.C x.a x.bs.length x.cap x.bs x.n ⟨hd.below b18, r8, ?_, by omega, by omega, by omega, by omega, hf.2.2.below' (bW.trans (b18.mono bW.size)), rfl, by omega, ?_⟩ hκ hf.2.1 hk hinv (hd.mem.1 _ (fileOf_mem hinv.sf))).mono ?_
  · intro hx
    have := (hd.lt r hx).1
    omega
  · intro hne y hy
    have h1 := arg_far hf.2.2 hne hy
    refine ⟨fun e => ?_, fun e => ?_⟩
    · have := (hd.lt y e).2
      omega
    · omega
  · rintro e w' ⟨h1, T', h2, h3, h4⟩
    exact ⟨h1, T', h2.mono (by omega), h3, h4⟩

set_option maxRecDepth 100000 in
set_option maxHeartbeats 8000000 in
theorem diskKeeps_walk (W : World) (va : Option Addr) (n0 c0 : Nat) (b : List UInt8) (hb : b.length = n0) (rb : Reads W 1 (.slice va n0 c0) n0 (bcells b)) (la : Option Addr) (ln lc : Nat) (l : List LAct) (hl : LActsAt W la ln lc l) (hln : ln ≤ maxLen)
    (ka : Option Addr) (kn kc : Nat) (kp : List UInt8) (hk : kp.length = kn) (rk : Reads W 1 (.slice ka kn kc) kn (bcells kp)) :
    Calls Try.prog 4 #[.slice va n0 c0, .slice la ln lc, .slice ka kn kc] W (SaysTrue W) := by
  have H0 := Lib.hid (fixed_any W)
  have HBl := Lib.hid hb
  have HRb := Lib.hid rb
  have HLA := Lib.hid hl
  have HKl := Lib.hid hk
  have HRk := Lib.hid rk
  obtain ⟨_, _, hlv, hlc1, hlc2⟩ := hl.2.1.le
  cases hlv
  obtain ⟨_, _, hbv, hb1, hb2⟩ := rb.le
  cases hbv
  obtain ⟨_, _, hkv, hk1, hk2⟩ := rk.le
  cases hkv
  clear hb rb hl hk rk
  go_enter Try.func4, Try.ntmps4
  go_wp2_with (go_at_call 8; go_must (refine H0.out.mono ?_))
  rintro e w1 ⟨rfl, b1⟩
  have HFw := Lib.hid (fewL_any w1 la ln lc l (HLA.out.below b1) hln)
  have HB1 := Lib.hid b1
  clear b1
  go_wp2_with (go_at_call 9; go_must (refine HFw.out.mono ?_))
  rintro e w2 ⟨rfl, b2⟩
  have HB2 := Lib.hid (HB1.out.trans (b2.mono HB1.out.size))
  clear b2 HFw
  cases hfew : fewL l with
  | false =>
    go_wp2
    go_ret
    exact ⟨rfl, HB2.out⟩
  | true =>
  have HFew := Lib.hid hfew
  clear hfew
  by_cases hn0 : n0 ≤ 300
  case neg =>
    have i1 : (300 : Int) < (n0 : Int) := by omega
    go_wp2
    go_ret
    exact ⟨rfl, HB2.out⟩
  have i1 : ¬ (300 : Int) < (n0 : Int) := by omega
  by_cases hkn : kn ≤ 300
  case neg =>
    have i2 : (300 : Int) < (kn : Int) := by omega
    go_wp2
    go_ret
    exact ⟨rfl, HB2.out⟩
  have i2 : ¬ (300 : Int) < (kn : Int) := by omega
  have hln120 : ln ≤ 120 := by
    have h1 := HFew.out
    unfold fewL at h1
    rw [Bool.and_eq_true, decide_eq_true_eq, HLA.out.1] at h1
    exact h1.2
  have HN := Lib.hid (new_any w2 16777216)
  go_wp2_with (go_at_call 10; go_must (refine HN.out.mono ?_))
  rintro e w3 ⟨rfl, b3, d3⟩
  generalize w2.heap.size + 2 = D at *
  have s3 : St (dk0 w2.heap.size (roomOf 16777216)) [] [] [] 16777216 (-1) false 0 := st_new w2.heap.size (roomOf 16777216)
  generalize dk0 w2.heap.size (roomOf 16777216) = S3 at *
  have z1 : (-1 : Int) ≠ 0 := by decide
  have HC := Lib.hid (create_any d3 kB (by decide) (by rw [s3.acts]; simp))
  rw [s3.create z1 kB_ok rfl (by decide)] at HC
  have HB3 := Lib.hid b3
  have HD3 := Lib.hid d3
  have HS3 := Lib.hid s3
  clear b3 d3 s3 HN
  go_wp2_with (go_at_call 20; go_must (refine HC.out.mono ?_))
  rintro e w4 ⟨rfl, t4, T4, hc4, d4⟩
  obtain ⟨g, _, s4, f4⟩ := HS3.out.created z1 kB_ok rfl (by decide) hc4
  have s4 : St T4 [(kB, g)] [] [.add kB g] 16777216 (-1) false 1 := s4
  have b4 : Below w2.heap.size w2 w4 := HB3.out.trans (t4.below HB3.out.size (fun x hx => (HD3.out.lt x hx).2))
  have hfo : fileOf [(kB, g)] kB = some g := by simp [fileOf]
  have hsum : sumD T4.fl [(kB, g)] = 0 := by unfold sumD; rw [f4]; simp [updF]
  have hW4 : Below W.heap.size W w4 := HB2.out.trans (b4.mono HB2.out.size)
  have HA := Lib.hid (append_any d4 kB (by decide) (by rw [s4.dir]; simp) (.slice va n0 c0) b (by rw [HBl.out]; exact HRb.out.below' hW4) (by rw [HBl.out]; omega) (fun hne x hx e => by
    have h1 := arg_far HRb.out hne hx
    have h2 := (d4.lt x e).2
    have h3 := HB2.out.size
    omega))
  have hap : appendE T4 kB b.length = 0 := by rw [s4.appendE kB_ok hfo, hsum, if_neg (by rw [HBl.out]; omega), if_neg z1]
  rw [hap] at HA
  have HB4 := Lib.hid b4
  have HD4 := Lib.hid d4
  have HS4 := Lib.hid s4
  have HF4 := Lib.hid f4
  have HFo := Lib.hid hfo
  clear t4 hc4 d4 s4 f4 b4 hfo hsum hap hW4 HC HS3 HD3 HB3
  go_wp2_with (go_at_call 21; go_must (refine HA.out.mono ?_))
  rintro e w5 ⟨rfl, t5, T5, hc5, d5⟩
  obtain ⟨s5, f5⟩ := (HS4.out.filed kB_ok HFo.out hc5).2.1 rfl z1
  have s5 : St T5 [(kB, g)] [] [.add kB g] 16777216 (-1) false 1 := s5
  have b5 : Below w2.heap.size w2 w5 := HB4.out.trans (t5.below HB4.out.size (fun x hx => (HD4.out.lt x hx).2))
  have f5 : T5.fl g = ⟨b, 0⟩ := by rw [f5, updF_same, HF4.out, updF_same]; rfl
  have HY := Lib.hid (sync_any d5 kB (by decide))
  rw [show syncE T5 kB = 0 by unfold syncE; rw [s5.found kB_ok HFo.out, if_neg (by simp), s5.burnE0 z1]] at HY
  have HB5 := Lib.hid b5
  have HD5 := Lib.hid d5
  have HS5 := Lib.hid s5
  have HF5 := Lib.hid f5
  clear t5 hc5 d5 s5 f5 b5 HA HS4 HD4 HB4 HF4
  go_wp2_with (go_at_call 22; go_must (refine HY.out.mono ?_))
  rintro e w6 ⟨rfl, t6, T6, hc6, d6⟩
  obtain ⟨s6, f6⟩ := (HS5.out.filed kB_ok HFo.out hc6).2.1 rfl z1
  have s6 : St T6 [(kB, g)] [] [.add kB g] 16777216 (-1) false 1 := s6
  have b6 : Below w2.heap.size w2 w6 := HB5.out.trans (t6.below HB5.out.size (fun x hx => (HD5.out.lt x hx).2))
  have f6 : T6.fl g = ⟨b, b.length⟩ := by rw [f6, updF_same, HF5.out]
  have HY := Lib.hid (syncdir_any d6 (Nat.le_trans s6.gs (by decide)))
  rw [show syncdirE T6 = 0 by unfold syncdirE; rw [s6.down]; exact s6.burnE0 z1] at HY
  have HB6 := Lib.hid b6
  have HD6 := Lib.hid d6
  have HS6 := Lib.hid s6
  have HF6 := Lib.hid f6
  clear t6 hc6 d6 s6 f6 b6 HS5 HD5 HB5 HF5
  go_wp2_with (go_at_call 23; go_must (refine HY.out.mono ?_))
  rintro e w7 ⟨rfl, t7, T7, hc7, d7⟩
  obtain ⟨_, s7, f7⟩ := HS6.out.synced z1 hc7
  have b7 : Below w2.heap.size w2 w7 := HB6.out.trans (t7.below HB6.out.size (fun x hx => (HD6.out.lt x hx).2))
  have hinv : KInv T7 g b (2 * 0 + 1) := ⟨by rw [s7.safe]; exact HFo.out, (fun x hx => by rw [s7.acts] at hx; cases hx), ⟨[], by rw [f7, HF6.out, List.append_nil]⟩, by rw [f7, HF6.out]; exact Nat.le_refl _, s7.gs, by rw [s7.acts]; simp⟩
  have HB7 := Lib.hid b7
  have HD7 := Lib.hid d7
  have HI7 := Lib.hid hinv
  clear t7 hc7 d7 s7 f7 b7 hinv HS6 HD6 HB6 HF6 HY
  go_wp2_with fail
  go_loopw [43] (fun iv wr => KpRel w2 D g ln b iv wr) (fun iv _ => ln - (intOf iv).toNat)
  case atStart => exact ⟨0, T7, rfl, Nat.zero_le _, HD7.out, HI7.out, HB7.out⟩
  case round =>
    rename World => wr
    obtain ⟨i, T, rfl, hi, hd, hinv, hbw⟩ := hrel
    have HD := Lib.hid hd
    have HI := Lib.hid hinv
    have HBw := Lib.hid hbw
    clear hd hinv hbw
    have hbW : Below W.heap.size W wr := HB2.out.trans (HBw.out.mono HB2.out.size)
    have HBW := Lib.hid hbW
    by_cases hlt : i < ln
    · have hltI : (i : Int) < ln := by omega
      obtain ⟨x, hx⟩ : ∃ x, l[i]? = some x := ⟨_, List.getElem?_eq_getElem (by rw [HLA.out.1]; exact hlt)⟩
      obtain ⟨hfit, g1, off, rfl, hg1, k0, k1, k2, k3, k4⟩ := (HLA.out.below hbW).at hx
      have hk256 := hfit.1
      have hokL : okL x = true := by
        have h1 := HFew.out
        unfold fewL at h1
        rw [Bool.and_eq_true] at h1
        exact List.all_eq_true.1 h1.1 x (List.mem_of_getElem? hx)
      have HFW := Lib.hid (HLA.out.2.2 x (List.mem_of_getElem? hx))
      have HOk := Lib.hid hokL
      have HBn := Lib.hid ((Below.refl wr.heap.size wr).alloc (Nat.le_refl _) (.cells (lacell x).toArray 31))
      clear hx hfit hokL hbW
      have hwl : wr.heap.size ≤ wr.heap.size := Nat.le_refl _
      have hkk : (0 : Int) ≤ (x.k : Int) % 9 := by omega
      have hkm : ((x.k : Int) % 9).toNat = x.k % 9 := by omega
      have eA := kB_list x.A
      have eC := kB_beq x.C
      have HGo := fun κ hκ hk w1 b1 => do_round (w1 := w1) (Nat.le_trans HB2.out.size (Nat.le_refl _)) HFW.out HBW.out HOk.out (show i ≤ 120 by omega) κ hκ hk HD.out HI.out b1
      replace HGo := Lib.hid HGo
      simp only [lacell] at k0 k1 k2 k3 k4 HBn
      have ways : (x.C = kB ∨ x.C ≠ kB) := Classical.em _
      have ways2 : x.A ≠ kB ∨ (x.A = kB ∧ (x.k : Int) % 9 = 1) ∨ (x.A = kB ∧ (x.k : Int) % 9 ≠ 1 ∧ (x.k : Int) % 9 = 3) ∨ (x.A = kB ∧ (x.k : Int) % 9 ≠ 1 ∧ (x.k : Int) % 9 ≠ 3) := by
        by_cases h1 : x.A = kB
        · by_cases h2 : (x.k : Int) % 9 = 1
          · exact .inr (.inl ⟨h1, h2⟩)
          · by_cases h3 : (x.k : Int) % 9 = 3
            · exact .inr (.inr (.inl ⟨h1, h2, h3⟩))
            · exact .inr (.inr (.inr ⟨h1, h2, h3⟩))
        · exact .inl h1
      rcases ways2 with n1 | ⟨n1, n2⟩ | ⟨n1, n2, n3⟩ | ⟨n1, n2, n3⟩
      · have eA1 := fun e => n1 (eA.1 e)
        have N1 := Lib.hid n1
        clear eA n1
        rcases ways with c1 | c1
        · rw [decide_eq_true c1] at eC
          clear c1 HGo N1
          go_wp2
          exact ⟨⟨i + 1, T, by go_num, hlt, HD.out.below HBn.out, HI.out.mono (by omega), HBw.out.trans (HBn.out.mono HBw.out.size)⟩, by simp [intOf]; omega⟩
        rw [decide_eq_false c1] at eC
        have C1 := Lib.hid c1
        clear c1
        by_cases e8 : (x.k : Int) % 9 = 8
        · have e8' : ((x.k : Int) % 9 == 8) = true := by rw [e8]; rfl
          have HXX := Lib.hid (heap_alloc_new wr (.cells #[.int .u8 (1), .string x.A, .string x.C, .slice x.a x.bs.length x.cap, .int .i64 x.n] 31))
          have HB1 := Lib.hid ((Below.refl wr.heap.size wr).alloc (Nat.le_refl _) (.cells #[.int .u8 (1), .string x.A, .string x.C, .slice x.a x.bs.length x.cap, .int .i64 x.n] 31))
          have HRn := Lib.hid (rnewp_any)
          replace HGo := Lib.hid (HGo.out (1) (by decide) (⟨.inl N1.out, C1.out, by decide⟩) _ HB1.out)
          clear N1 C1
          go_upto_region 16 with fail
          generalize wr.alloc (.cells #[.int .u8 (1), .string x.A, .string x.C, .slice x.a x.bs.length x.cap, .int .i64 x.n] 31) = w1 at *
          have hx1 : wr.heap.size < w1.heap.size := (Array.getElem?_eq_some_iff.1 HXX.out).1
          have x0 := Lib.cell_of_heap HXX.out 0
          have x1 := Lib.cell_of_heap HXX.out 1
          have x2 := Lib.cell_of_heap HXX.out 2
          have x3 := Lib.cell_of_heap HXX.out 3
          have x4 := Lib.cell_of_heap HXX.out 4
          simp at x0 x1 x2 x3 x4
          clear k0 k1 k2 k3 k4 eC e8' eA1
          go_region_law (first
            | (go_simp; go_at_call 11; refine (HRn.out _).mono ?_; rintro e w8 ⟨rfl, b8, r8⟩
               have b18 : Below w1.heap.size w1 w8 := ⟨b8.os, b8.tape, b8.output, b8.size, b8.block⟩
               have R8 := Lib.hid r8
               have q8 := (b18.block _ hx1).trans HXX.out
               have u80 := Lib.cell_of_heap q8 0
               have u81 := Lib.cell_of_heap q8 1
               have u82 := Lib.cell_of_heap q8 2
               have u83 := Lib.cell_of_heap q8 3
               have u84 := Lib.cell_of_heap q8 4
               simp at u80 u81 u82 u83 u84)
            | (go_simp; go_at_call 12; refine (HGo.out _ _ rfl ⟨b18.os, b18.tape, b18.output, b18.size, b18.block⟩ R8.out).mono ?_; rintro e w9 ⟨⟨z9, rfl⟩, T9, hi9, hd9, t9⟩))
          all_goals
            have HI9 := Lib.hid hi9
            have HD9 := Lib.hid hd9
            have hb9 : Below w2.heap.size w8 w9 := Touch.below (w := w8) ⟨t9.os, t9.tape, t9.output, t9.size, t9.block⟩ (by have := HBw.out.size; have := b18.size; omega) (fun x hx => by
              rcases List.mem_cons.1 hx with e | hx
              · have := HBw.out.size
                try simp at e
                omega
              · exact (HD.out.lt x hx).2)
            have HB9 := Lib.hid ((HBw.out.trans ((HB1.out.trans (b18.mono (Nat.le_of_lt hx1))).mono HBw.out.size)).trans hb9)
            clear hi9 hd9 t9 hb9
            go_wp2
            exact ⟨⟨i + 1, T9, by go_num, hlt, HD9.out, HI9.out, HB9.out⟩, by simp [intOf]; omega⟩
        have e8' : ((x.k : Int) % 9 == 8) = false := by rw [beq_eq_false_iff_ne]; exact e8
        have HXX := Lib.hid (heap_alloc_new wr (.cells #[.int .u8 ((x.k : Int)), .string x.A, .string x.C, .slice x.a x.bs.length x.cap, .int .i64 x.n] 31))
        have HB1 := Lib.hid ((Below.refl wr.heap.size wr).alloc (Nat.le_refl _) (.cells #[.int .u8 ((x.k : Int)), .string x.A, .string x.C, .slice x.a x.bs.length x.cap, .int .i64 x.n] 31))
        have HRn := Lib.hid (rnewp_any)
        replace HGo := Lib.hid (HGo.out ((x.k : Int)) (by omega) (⟨.inl N1.out, C1.out, e8⟩) _ HB1.out)
        clear N1 C1
        go_upto_region 16 with fail
        generalize wr.alloc (.cells #[.int .u8 ((x.k : Int)), .string x.A, .string x.C, .slice x.a x.bs.length x.cap, .int .i64 x.n] 31) = w1 at *
        have hx1 : wr.heap.size < w1.heap.size := (Array.getElem?_eq_some_iff.1 HXX.out).1
        have x0 := Lib.cell_of_heap HXX.out 0
        have x1 := Lib.cell_of_heap HXX.out 1
        have x2 := Lib.cell_of_heap HXX.out 2
        have x3 := Lib.cell_of_heap HXX.out 3
        have x4 := Lib.cell_of_heap HXX.out 4
        simp at x0 x1 x2 x3 x4
        clear k0 k1 k2 k3 k4 eC e8' eA1
        go_region_law (first
          | (go_simp; go_at_call 11; refine (HRn.out _).mono ?_; rintro e w8 ⟨rfl, b8, r8⟩
             have b18 : Below w1.heap.size w1 w8 := ⟨b8.os, b8.tape, b8.output, b8.size, b8.block⟩
             have R8 := Lib.hid r8
             have q8 := (b18.block _ hx1).trans HXX.out
             have u80 := Lib.cell_of_heap q8 0
             have u81 := Lib.cell_of_heap q8 1
             have u82 := Lib.cell_of_heap q8 2
             have u83 := Lib.cell_of_heap q8 3
             have u84 := Lib.cell_of_heap q8 4
             simp at u80 u81 u82 u83 u84)
          | (go_simp; go_at_call 12; refine (HGo.out _ _ rfl ⟨b18.os, b18.tape, b18.output, b18.size, b18.block⟩ R8.out).mono ?_; rintro e w9 ⟨⟨z9, rfl⟩, T9, hi9, hd9, t9⟩))
        all_goals
          have HI9 := Lib.hid hi9
          have HD9 := Lib.hid hd9
          have hb9 : Below w2.heap.size w8 w9 := Touch.below (w := w8) ⟨t9.os, t9.tape, t9.output, t9.size, t9.block⟩ (by have := HBw.out.size; have := b18.size; omega) (fun x hx => by
            rcases List.mem_cons.1 hx with e | hx
            · have := HBw.out.size
              try simp at e
              omega
            · exact (HD.out.lt x hx).2)
          have HB9 := Lib.hid ((HBw.out.trans ((HB1.out.trans (b18.mono (Nat.le_of_lt hx1))).mono HBw.out.size)).trans hb9)
          clear hi9 hd9 t9 hb9
          go_wp2
          exact ⟨⟨i + 1, T9, by go_num, hlt, HD9.out, HI9.out, HB9.out⟩, by simp [intOf]; omega⟩
      · have eA1 := eA.2 n1
        have N1 := Lib.hid n1
        clear eA n1
        rcases ways with c1 | c1
        · rw [decide_eq_true c1] at eC
          clear c1 HGo N1
          go_wp2
          exact ⟨⟨i + 1, T, by go_num, hlt, HD.out.below HBn.out, HI.out.mono (by omega), HBw.out.trans (HBn.out.mono HBw.out.size)⟩, by simp [intOf]; omega⟩
        rw [decide_eq_false c1] at eC
        have C1 := Lib.hid c1
        clear c1
        have e8' : ((x.k : Int) % 9 == 8) = false := by rw [beq_eq_false_iff_ne, n2]; decide
        have HXX := Lib.hid (heap_alloc_new wr (.cells #[.int .u8 ((x.k : Int)), .string x.A, .string x.C, .slice x.a x.bs.length x.cap, .int .i64 x.n] 31))
        have HB1 := Lib.hid ((Below.refl wr.heap.size wr).alloc (Nat.le_refl _) (.cells #[.int .u8 ((x.k : Int)), .string x.A, .string x.C, .slice x.a x.bs.length x.cap, .int .i64 x.n] 31))
        have HRn := Lib.hid (rnewp_any)
        replace HGo := Lib.hid (HGo.out ((x.k : Int)) (by omega) (⟨.inr (.inl n2), C1.out, by omega⟩) _ HB1.out)
        clear N1 C1
        go_upto_region 16 with fail
        generalize wr.alloc (.cells #[.int .u8 ((x.k : Int)), .string x.A, .string x.C, .slice x.a x.bs.length x.cap, .int .i64 x.n] 31) = w1 at *
        have hx1 : wr.heap.size < w1.heap.size := (Array.getElem?_eq_some_iff.1 HXX.out).1
        have x0 := Lib.cell_of_heap HXX.out 0
        have x1 := Lib.cell_of_heap HXX.out 1
        have x2 := Lib.cell_of_heap HXX.out 2
        have x3 := Lib.cell_of_heap HXX.out 3
        have x4 := Lib.cell_of_heap HXX.out 4
        simp at x0 x1 x2 x3 x4
        clear k0 k1 k2 k3 k4 eC e8' eA1
        go_region_law (first
          | (go_simp; go_at_call 11; refine (HRn.out _).mono ?_; rintro e w8 ⟨rfl, b8, r8⟩
             have b18 : Below w1.heap.size w1 w8 := ⟨b8.os, b8.tape, b8.output, b8.size, b8.block⟩
             have R8 := Lib.hid r8
             have q8 := (b18.block _ hx1).trans HXX.out
             have u80 := Lib.cell_of_heap q8 0
             have u81 := Lib.cell_of_heap q8 1
             have u82 := Lib.cell_of_heap q8 2
             have u83 := Lib.cell_of_heap q8 3
             have u84 := Lib.cell_of_heap q8 4
             simp at u80 u81 u82 u83 u84)
          | (go_simp; go_at_call 12; refine (HGo.out _ _ rfl ⟨b18.os, b18.tape, b18.output, b18.size, b18.block⟩ R8.out).mono ?_; rintro e w9 ⟨⟨z9, rfl⟩, T9, hi9, hd9, t9⟩))
        all_goals
          have HI9 := Lib.hid hi9
          have HD9 := Lib.hid hd9
          have hb9 : Below w2.heap.size w8 w9 := Touch.below (w := w8) ⟨t9.os, t9.tape, t9.output, t9.size, t9.block⟩ (by have := HBw.out.size; have := b18.size; omega) (fun x hx => by
            rcases List.mem_cons.1 hx with e | hx
            · have := HBw.out.size
              try simp at e
              omega
            · exact (HD.out.lt x hx).2)
          have HB9 := Lib.hid ((HBw.out.trans ((HB1.out.trans (b18.mono (Nat.le_of_lt hx1))).mono HBw.out.size)).trans hb9)
          clear hi9 hd9 t9 hb9
          go_wp2
          exact ⟨⟨i + 1, T9, by go_num, hlt, HD9.out, HI9.out, HB9.out⟩, by simp [intOf]; omega⟩
      · have eA1 := eA.2 n1
        have N1 := Lib.hid n1
        clear eA n1
        rcases ways with c1 | c1
        · rw [decide_eq_true c1] at eC
          clear c1 HGo N1
          go_wp2
          exact ⟨⟨i + 1, T, by go_num, hlt, HD.out.below HBn.out, HI.out.mono (by omega), HBw.out.trans (HBn.out.mono HBw.out.size)⟩, by simp [intOf]; omega⟩
        rw [decide_eq_false c1] at eC
        have C1 := Lib.hid c1
        clear c1
        have e8' : ((x.k : Int) % 9 == 8) = false := by rw [beq_eq_false_iff_ne, n3]; decide
        have HXX := Lib.hid (heap_alloc_new wr (.cells #[.int .u8 ((x.k : Int)), .string x.A, .string x.C, .slice x.a x.bs.length x.cap, .int .i64 x.n] 31))
        have HB1 := Lib.hid ((Below.refl wr.heap.size wr).alloc (Nat.le_refl _) (.cells #[.int .u8 ((x.k : Int)), .string x.A, .string x.C, .slice x.a x.bs.length x.cap, .int .i64 x.n] 31))
        have HRn := Lib.hid (rnewp_any)
        replace HGo := Lib.hid (HGo.out ((x.k : Int)) (by omega) (⟨.inr (.inr n3), C1.out, by omega⟩) _ HB1.out)
        clear N1 C1
        go_upto_region 16 with fail
        generalize wr.alloc (.cells #[.int .u8 ((x.k : Int)), .string x.A, .string x.C, .slice x.a x.bs.length x.cap, .int .i64 x.n] 31) = w1 at *
        have hx1 : wr.heap.size < w1.heap.size := (Array.getElem?_eq_some_iff.1 HXX.out).1
        have x0 := Lib.cell_of_heap HXX.out 0
        have x1 := Lib.cell_of_heap HXX.out 1
        have x2 := Lib.cell_of_heap HXX.out 2
        have x3 := Lib.cell_of_heap HXX.out 3
        have x4 := Lib.cell_of_heap HXX.out 4
        simp at x0 x1 x2 x3 x4
        clear k0 k1 k2 k3 k4 eC e8' eA1
        go_region_law (first
          | (go_simp; go_at_call 11; refine (HRn.out _).mono ?_; rintro e w8 ⟨rfl, b8, r8⟩
             have b18 : Below w1.heap.size w1 w8 := ⟨b8.os, b8.tape, b8.output, b8.size, b8.block⟩
             have R8 := Lib.hid r8
             have q8 := (b18.block _ hx1).trans HXX.out
             have u80 := Lib.cell_of_heap q8 0
             have u81 := Lib.cell_of_heap q8 1
             have u82 := Lib.cell_of_heap q8 2
             have u83 := Lib.cell_of_heap q8 3
             have u84 := Lib.cell_of_heap q8 4
             simp at u80 u81 u82 u83 u84)
          | (go_simp; go_at_call 12; refine (HGo.out _ _ rfl ⟨b18.os, b18.tape, b18.output, b18.size, b18.block⟩ R8.out).mono ?_; rintro e w9 ⟨⟨z9, rfl⟩, T9, hi9, hd9, t9⟩))
        all_goals
          have HI9 := Lib.hid hi9
          have HD9 := Lib.hid hd9
          have hb9 : Below w2.heap.size w8 w9 := Touch.below (w := w8) ⟨t9.os, t9.tape, t9.output, t9.size, t9.block⟩ (by have := HBw.out.size; have := b18.size; omega) (fun x hx => by
            rcases List.mem_cons.1 hx with e | hx
            · have := HBw.out.size
              try simp at e
              omega
            · exact (HD.out.lt x hx).2)
          have HB9 := Lib.hid ((HBw.out.trans ((HB1.out.trans (b18.mono (Nat.le_of_lt hx1))).mono HBw.out.size)).trans hb9)
          clear hi9 hd9 t9 hb9
          go_wp2
          exact ⟨⟨i + 1, T9, by go_num, hlt, HD9.out, HI9.out, HB9.out⟩, by simp [intOf]; omega⟩
      · have eA1 := eA.2 n1
        clear n1 HGo ways eA
        go_wp2
        exact ⟨⟨i + 1, T, by go_num, hlt, HD.out.below HBn.out, HI.out.mono (by omega), HBw.out.trans (HBn.out.mono HBw.out.size)⟩, by simp [intOf]; omega⟩
    · obtain rfl : i = ln := by omega
      have hltI : ¬ (i : Int) < i := by omega
      have hal := HI.out.al
      have hgl := HI.out.gl
      have HC := Lib.hid (crashp_any HD.out (.slice ka kn kc) kp (by rw [HKl.out]; exact HRk.out.below' hbW) (by omega) (by omega) (fun hne x hx e => by
        have h1 := arg_far HRk.out hne hx
        have h2 := (HD.out.lt x e).2
        have h3 := HB2.out.size
        omega))
      clear hal hgl hbW
      go_wp2_with (go_at_call 24; go_must (refine HC.out.mono ?_))
      rintro e w8 ⟨rfl, t8, T8, hc8, d8⟩
      obtain ⟨hfound, rest, hdat⟩ := HI.out.crashed HD.out hc8
      have HRd := Lib.hid (read_any d8 kB (by decide))
      have HB8 := Lib.hid (HBw.out.trans (t8.below HBw.out.size (fun x hx => (HD.out.lt x hx).2)))
      have HFd := Lib.hid hfound
      have HDat := Lib.hid hdat
      clear t8 hc8 d8 hfound hdat HC
      go_wp2_with (go_at_call 18; go_must (refine HRd.out.mono ?_))
      rintro e w9 ⟨v9, rfl, b9, h9⟩
      rw [HFd.out] at h9 ⊢
      have o9 : Reads w9 1 v9 (b ++ rest).length (bcells (b ++ rest)) := by
        rcases h9 with ⟨h9, _⟩ | ⟨g', h9, h10⟩
        · cases h9
        · cases h9
          rw [HDat.out] at h10
          exact ownsRow.reads h10
      obtain ⟨a9, c9, rfl, hc91, hc92⟩ := o9.le
      have o9t : Reads w9 1 (.slice a9 n0 c9) n0 (bcells b) := by
        obtain ⟨a, c, hv, _, _, ht⟩ := o9.take n0 (by rw [List.length_append, HBl.out]; omega)
        cases hv
        rw [List.take_left' HBl.out] at ht
        exact ht
      have hbW9 : Below W.heap.size W w9 := HB2.out.trans ((HB8.out.trans (b9.mono HB8.out.size)).mono HB2.out.size)
      have HBW9 := Lib.hid hbW9
      have HRb9 := HRb.out.below' hbW9
      have hv1 := fun k => Reads.conv (P := Try.prog) (w := w9.drewN k) (src := 29) (e := 5) (dst := 9) Try.underlying29 Try.underlying5 Try.underlying9 (o9t.below' (below_drewN (Below.refl _ w9) k))
      have hv2 := fun k => Reads.conv (P := Try.prog) (w := w9.drewN k) (src := 29) (e := 5) (dst := 9) Try.underlying29 Try.underlying5 Try.underlying9 (HRb9.below' (below_drewN (Below.refl _ w9) k))
      have hlen9 : (b ++ rest).length = n0 + rest.length := by rw [List.length_append, HBl.out]
      rw [hlen9] at hc91 ⊢
      obtain ⟨L, hL, hn9⟩ : ∃ L, n0 + rest.length = L ∧ n0 ≤ L := ⟨_, rfl, by omega⟩
      rw [hL] at hc91 ⊢
      have hge : (n0 : Int) ≤ (L : Int) := by omega
      have hge' : decide ((n0 : Int) ≤ (L : Int)) = true := decide_eq_true hge
      have hn9 : n0 ≤ c9 := by omega
      clear hL
      clear o9 o9t h9 b9 hbW9 HRb9 hlen9
      go_wp2_with fail
      go_quiet (fail)
      go_wp2
      go_ret
      exact ⟨rfl, below_drewN HBW9.out nq⟩
end Go.Proofs.Ytbhapbioibhalaa
