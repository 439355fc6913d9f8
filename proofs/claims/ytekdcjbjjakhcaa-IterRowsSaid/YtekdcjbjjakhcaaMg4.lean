/- What the proof stands on, part 4. -/
import Derived.Test.YtekdcjbjjakhcaaMg3
import Derived.Test.YtekdcjbjjakhcaaRows
import Derived.Lib.Builder
import Derived.Lib.AppendStr
import Derived.Laws.Externs
import Derived.Shelf.Strings.Builder1
import Derived.Shelf.Small.Strs
import Derived.Shelf.Strings.Search1
import Derived.Test.YtekdcjbjjakhcaaProg
import Derived.Lib.Split
import Derived.Lib.IndexBytes
import Derived.Maps.OwnSet
/- iter.Rows: the first key that isn't less. -/
namespace Go.Proofs.Ytekdcjbjjakhcaa
open Go Go.RowKit

theorem bl_data (x y : ByteArray) : bl x y = decide (x.data.toList < y.data.toList) := by
  unfold bl
  rw [bytesLess_eq]

/-- How many stand ahead. -/
def aheadN (l : List ByteArray) (key : ByteArray) : Nat := l.countP fun x => bl x key

theorem aheadN_le (l : List ByteArray) (key : ByteArray) : aheadN l key ≤ l.length := List.countP_le_length

theorem sk_at {l : List ByteArray} (h : rises l) (key : ByteArray) : sk l key = l[aheadN l key]? := by
  induction l with
  | nil => rfl
  | cons a r ih =>
    have hp := List.pairwise_cons.1 h
    unfold sk aheadN
    rw [List.find?_cons, List.countP_cons]
    cases ha : bl a key with
    | true =>
      simp
      have := ih hp.2
      unfold sk aheadN at this
      exact this
    | false =>
      have h0 : r.countP (fun x => bl x key) = 0 := by
        rw [List.countP_eq_zero]
        intro y hy hyk
        have := bl_trans (hp.1 y hy) hyk
        rw [ha] at this
        cases this
      simp [h0]

theorem ahead_mono {l : List ByteArray} (h : rises l) (key : ByteArray) {i j : Nat} {x y : ByteArray} (hij : i ≤ j) (hx : l[i]? = some x) (hy : l[j]? = some y) (hk : bl x key = false) : bl y key = false := by
  by_cases he : i = j
  · subst he
    rw [hx] at hy
    cases hy
    exact hk
  · obtain ⟨h1, rfl⟩ := List.getElem?_eq_some_iff.1 hx
    obtain ⟨h2, rfl⟩ := List.getElem?_eq_some_iff.1 hy
    have hlt := List.pairwise_iff_getElem.1 h i j h1 h2 (by omega)
    cases hb : bl l[j] key with
    | false => rfl
    | true =>
      rw [bl_trans hlt hb] at hk
      cases hk

def skV : Option ByteArray → Value
  | none => .tuple #[.string ⟨#[]⟩, .bool false, .int .i64 0]
  | some x => .tuple #[.string x, .bool true, .int .i64 0]

def SeekPost (w : World) (o : Option ByteArray) (e : Ending) (w' : World) : Prop := e = .returned (skV o) ∧ Below w.heap.size w w'

theorem search_any (w : World) (a : Option Addr) (n cap : Nat) (l : List ByteArray) (key : ByteArray) (h : Reads w 1 (.slice a n cap) n (scells l)) (hr : rises l) (hn : n ≤ 1000000) :
    Calls Try.prog 50 #[.slice a n cap, .string key] w fun e w' => e = .returned (.int .i64 (aheadN l key : Int)) ∧ Below w.heap.size w w' := by
  have hll : l.length = n := by have := h.1; rw [scells_length] at this; omega
  by_cases h0 : n = 0
  · subst h0
    have hl0 : l = [] := List.eq_nil_of_length_eq_zero hll
    subst hl0
    have hcon := Any.sort_SearchStrings_none Try.searchStrings a cap key w
    change Calls Try.prog 50 _ _ _ at hcon
    exact hcon
  · obtain ⟨b, off, _, rfl, _, hb, _⟩ := h.scell 0 (by omega)
    have hsz : l.toArray.size = n := by simpa using hll
    have hget : ∀ i, (hi : i < n) → l.toArray[i]! = l[i]'(by omega) := fun i hi => by
      rw [getElem!_pos _ _ (by rw [hsz]; exact hi)]
      simp
    have hcon := Any.sort_SearchStrings Try.searchStrings b off cap l.toArray key w (fun i hi => by
      rw [hsz] at hi
      obtain ⟨_, _, s, hv, hs, _, hc⟩ := h.scell i hi
      cases hv
      rw [hget i hi, hc]
      obtain ⟨_, rfl⟩ := List.getElem?_eq_some_iff.1 hs
      rfl) hb (by rw [hsz]; omega) (fun x y hxy hy hx => by
      rw [hsz] at hy
      rw [hget x (by omega)] at hx
      rw [hget y hy]
      rw [← bl_data] at hx ⊢
      have hx' : bl (l[x]'(by omega)) key = false := by simpa using hx
      rw [ahead_mono hr key hxy (List.getElem?_eq_getElem (by omega)) (List.getElem?_eq_getElem (by omega)) hx']
      rfl)
    rw [hsz] at hcon
    change Calls Try.prog 50 _ _ _ at hcon
    refine hcon.mono fun e w' ⟨he, hbw⟩ => ⟨?_, hbw⟩
    rw [he]
    have e1 : l.toArray.toList.countP (fun y => !!decide (y.data.toList < key.data.toList)) = aheadN l key := by
      unfold aheadN
      congr 1
      funext y
      rw [bl_data]
      simp
    rw [e1]

set_option maxRecDepth 100000 in
set_option maxHeartbeats 1000000 in
theorem rseek_any (w : World) (a : Option Addr) (n cap : Nat) (l : List ByteArray) (key : ByteArray) (h : Reads w 1 (.slice a n cap) n (scells l)) (hr : rises l) (hn : n ≤ 1000000) :
    Calls Try.prog 31 #[.slice a n cap, .string key] w (SeekPost w (sk l key)) := by
  have hll : l.length = n := by have := h.1; rw [scells_length] at this; omega
  have hle := aheadN_le l key
  have hse := search_any w a n cap l key h hr hn
  have hsk := sk_at hr key
  have HSe := Lib.hid hse
  have HSk := Lib.hid hsk
  have HR := Lib.hid h
  have HL := Lib.hid hll
  generalize aheadN l key = c at *
  clear hse hsk h hr
  by_cases hc : c = n
  · have hnone : l[c]? = none := List.getElem?_eq_none (by rw [hll]; omega)
    rw [hnone] at HSk
    subst hc
    clear hnone hll hle
    go_enter Try.func31, Try.ntmps31
    go_wp2_with (go_at_call 50; go_must (refine HSe.out.mono ?_))
    rintro e w1 ⟨rfl, b1⟩
    go_wp2
    go_ret3
    rw [HSk.out]
    exact ⟨rfl, b1⟩
  · have hlt : c < n := by omega
    have hltI : (c : Int) < n := by omega
    have hneI : ((c : Int) == n) = false := by simp; omega
    clear hll hle hc
    go_enter Try.func31, Try.ntmps31
    go_wp2_with (go_at_call 50; go_must (refine HSe.out.mono ?_))
    rintro e w1 ⟨rfl, b1⟩
    obtain ⟨b, off, x, rfl, hx, hbx, hcx⟩ := (HR.out.below' b1).scell c hlt
    rw [hx] at HSk
    clear hx
    go_wp2
    go_ret3
    rw [HSk.out]
    exact ⟨rfl, b1⟩
end Go.Proofs.Ytekdcjbjjakhcaa

/- strings.Builder: what its methods leave. -/
namespace Go.Proofs.Ytekdcjbjjakhcaa
open Go Go.RowKit

theorem sizeBuilder : (Try.prog.info? 92).map (·.size) = some 2 := by kernel_rfl
theorem liesBuilder : liesAt Try.prog Try.prog.depth 92 (2 / Try.prog.cellsOf 92) 0 92 1 = true := by kernel_rfl
theorem infoByte : (Try.prog.info? 5).map (fun i => (i.zero, i.size, i.bytes)) = some (some (.int .u8 0), 1, 1) := by kernel_rfl

set_option maxRecDepth 100000 in
set_option maxHeartbeats 1000000 in
theorem copyCheck_used (w : World) (b : Nat) (c0 : w.cell? ⟨b, 0, none⟩ = some (.pointer (some ⟨b, 0, none⟩))) :
    Calls Try.prog 62 #[.pointer (some ⟨b, 0, none⟩)] w fun e w' => e = .returned (.tuple #[]) ∧ w = w' := by
  obtain ⟨j, hj, _⟩ := Option.map_eq_some_iff.1 sizeBuilder
  go_enter Try.func62, Try.ntmps62
  go_wp2
  rw [Lib.run_neq_ptr_same w _ Try.underlying90 hj]
  go_wp2
  go_end0
  exact ⟨rfl, rfl⟩

set_option maxRecDepth 100000 in
set_option maxHeartbeats 1000000 in
theorem copyCheck_new (w : World) (b : Nat) (c0 : w.cell? ⟨b, 0, none⟩ = some (.pointer none)) (hsh : w.shape? b = some (92, 2)) (hfz : w.frozen? ⟨b, 0, none⟩ = false) :
    Calls Try.prog 62 #[.pointer (some ⟨b, 0, none⟩)] w fun e w' => e = .returned (.tuple #[]) ∧ w' = w.setCell ⟨b, 0, none⟩ (.pointer (some ⟨b, 0, none⟩)) := by
  obtain ⟨j, hj, hjs⟩ := Option.map_eq_some_iff.1 sizeBuilder
  go_enter Try.func62, Try.ntmps62
  go_wp2
  rw [Lib.run_to_unsafe w ⟨b, 0, none⟩ Try.underlying90 Try.underlying101 hj (by rw [hjs]; decide) hsh (Nat.zero_lt_succ 1)]
  simp only [Result.andThen]
  rw [Oper.upon_value]
  go_wp2
  rw [run_callFunc_extern Try.func64 (by kernel_rfl) (by kernel_rfl) (by kernel_rfl) (e := Extern.AbiNoEscape.same) (by kernel_rfl)]
  rw [Lib.run_noEscape]
  simp only [Result.andThen]
  rw [Oper.upon_value]
  go_wp2
  rw [Lib.run_from_unsafe w ⟨b, 0, none⟩ Try.underlying101 Try.underlying90 hj hsh liesBuilder]
  simp only [Result.andThen]
  rw [Oper.upon_value]
  go_wp2
  go_end0
  exact ⟨rfl, rfl⟩

theorem copyCheck_any (B b : Nat) (bs : List Value) (w : World) (h : Lib.IsBuilder 92 5 B b bs w) :
    Calls Try.prog 62 #[.pointer (some ⟨b, 0, none⟩)] w fun e w' => e = .returned (.tuple #[]) ∧ Lib.BuilderAt 92 5 B b (.pointer (some ⟨b, 0, none⟩)) bs w' ∧ Below B w w' := by
  rcases h with h | h
  · refine (copyCheck_new w b h.cell0 h.shape h.frozen0).mono ?_
    rintro e w' ⟨rfl, rfl⟩
    exact ⟨rfl, h.used _, (Below.refl B w).setCell (p := ⟨b, 0, none⟩) h.1 _⟩
  · refine (copyCheck_used w b h.cell0).mono ?_
    rintro e w' ⟨rfl, rfl⟩
    exact ⟨rfl, h, Below.refl B w⟩

set_option maxRecDepth 100000 in
set_option maxHeartbeats 1000000 in
theorem writeByte_any (B b : Nat) (bs : List Value) (c : UInt8) (w : World) (h : Lib.IsBuilder 92 5 B b bs w) (hlen : bs.length ≤ 100000000000) (hBw : B ≤ w.heap.size) :
    Calls Try.prog 60 #[.pointer (some ⟨b, 0, none⟩), .int .u8 (c.toNat : Int)] w fun e w' => e = .returned .nilIface ∧ Lib.IsBuilder 92 5 B b (bs ++ bcells [c]) w' ∧ Below B w w' := by
  obtain ⟨i0, hi, hz0, hz1, hz2⟩ := info_parts infoByte
  go_enter Try.func60, Try.ntmps60
  go_wp2_with (go_at_call 62; go_must (refine (copyCheck_any B b bs _ h).mono ?_))
  rintro e w1 ⟨rfl, h1, hb1⟩
  obtain ⟨hB, v, hbk, hown, hne⟩ := h1
  have c0 : w1.cell? ⟨b, 0, none⟩ = some (.pointer (some ⟨b, 0, none⟩)) := by rw [Lib.cell_of_heap hbk]; rfl
  have c1 : w1.cell? ⟨b, 1, none⟩ = some v := by rw [Lib.cell_of_heap hbk]; rfl
  have hBw1 : B ≤ w1.heap.size := Nat.le_trans hBw hb1.size
  have Hbk := Lib.hid hbk
  have Hown := Lib.hid hown
  have Hne := Lib.hid hne
  clear hbk hown h hne
  have hblt : b < w1.heap.size := World.block_lt_of_cell? _ _ c0
  go_wp2_with (at_builtin; go_must (refine wpList_append_own _ rfl _ _ 82 rfl B 5 i0 (.int .u8 0) 1 1 Try.underlying82 hi hz0 hz1 hz2 rfl (by decide) _ _ _ rfl (Hown.out.alloc _) ⟨w1.heap.size, 0, none⟩ 1 1 (bcells [c]) rfl rfl ?_ ?_ ?_ ?_ ?_ ?_))
  · intro j u hj
    match j, hj with
    | 0, hj =>
      simp [bcells] at hj
      subst hj
      rw [Addr.add_lit]
      exact World.cell?_alloc_new w1 _ _ 0
    | j + 1, hj => simp [bcells] at hj
  · exact bcells_one [c]
  · unfold maxLen; omega
  · omega
  · simp; omega
  intro v2 w2 hown2 hg2 _
  have hb2 : w2.heap[b]? = some (.cells #[.pointer (some ⟨b, 0, none⟩), v] 92 (0, 0)) := by
    rw [hg2.block b (by simp; omega) (fun e => Hne.out e.symm), Below.heap_alloc w1 _ b hblt]
    exact Hbk.out
  have d0 : w2.cell? ⟨b, 0, none⟩ = some (.pointer (some ⟨b, 0, none⟩)) := by rw [Lib.cell_of_heap hb2]; rfl
  have d1 : w2.cell? ⟨b, 1, none⟩ = some v := by rw [Lib.cell_of_heap hb2]; rfl
  have f1 : w2.frozen? ⟨b, 1, none⟩ = false := Lib.frozen_of_heap hb2 1
  obtain ⟨g, cap, rfl⟩ : ∃ g cap, v2 = .slice (some ⟨g, 0, none⟩) (bs.length + 1) cap := by
    rcases hown2.2 with ⟨_, h0⟩ | ⟨g, cap, cur, hv, _⟩
    · omega
    · exact ⟨g, cap, hv⟩
  have Hb2 := Lib.hid hb2
  have Hown2 := Lib.hid hown2
  have hbel : Below B w w2 := (hb1.alloc hBw1 _).grown hg2 (by simp; omega) (fun k hk => (Hown.out.lt k hk).1)
  clear hb2 hown2 c0 c1
  go_wp2
  go_ret
  refine ⟨rfl, .inr ?_, hbel.setCell (p := ⟨b, 1, none⟩) hB _⟩
  exact Lib.BuilderAt.put (T := 92) (e := 5) hB Hb2.out (bs' := bs ++ bcells [c]) (by simpa [bcells] using Hown2.out) (by decide)
end Go.Proofs.Ytekdcjbjjakhcaa

/- strings.Builder: WriteString. -/
namespace Go.Proofs.Ytekdcjbjjakhcaa
open Go Go.RowKit

set_option maxRecDepth 100000 in
set_option maxHeartbeats 1000000 in
theorem writeString_any (B b : Nat) (bs : List Value) (s : ByteArray) (w : World) (h : Lib.IsBuilder 92 5 B b bs w) (hlen : bs.length + s.size ≤ 100000000000) (hBw : B ≤ w.heap.size) :
    Calls Try.prog 58 #[.pointer (some ⟨b, 0, none⟩), .string s] w fun e w' => e = .returned (.tuple #[.int .i64 s.size, .nilIface]) ∧ Lib.IsBuilder 92 5 B b (bs ++ bcells s.data.toList) w' ∧ Below B w w' := by
  obtain ⟨i0, hi, hz0, hz1, hz2⟩ := info_parts infoByte
  go_enter Try.func58, Try.ntmps58
  go_wp2_with (go_at_call 62; go_must (refine (copyCheck_any B b bs _ h).mono ?_))
  rintro e w1 ⟨rfl, h1, hb1⟩
  obtain ⟨hB, v, hbk, hown, hne⟩ := h1
  have c0 : w1.cell? ⟨b, 0, none⟩ = some (.pointer (some ⟨b, 0, none⟩)) := by rw [Lib.cell_of_heap hbk]; rfl
  have c1 : w1.cell? ⟨b, 1, none⟩ = some v := by rw [Lib.cell_of_heap hbk]; rfl
  have hBw1 : B ≤ w1.heap.size := Nat.le_trans hBw hb1.size
  have Hbk := Lib.hid hbk
  have Hown := Lib.hid hown
  have Hne := Lib.hid hne
  clear hbk hown h hne
  have hblt : b < w1.heap.size := World.block_lt_of_cell? _ _ c0
  go_wp2_with (at_builtin; go_must (refine Lib.wpList_append_own_string _ rfl _ _ 82 9 rfl B 5 i0 Try.underlying82 Try.underlying9 hi hz0 hz1 hz2 _ _ _ rfl Hown.out s rfl ?_ ?_ hBw1 ?_))
  · unfold maxLen; omega
  · omega
  intro v2 w2 hown2 hg2 _
  have hb2 : w2.heap[b]? = some (.cells #[.pointer (some ⟨b, 0, none⟩), v] 92 (0, 0)) := by
    rw [hg2.block b hblt (fun e => Hne.out e.symm)]
    exact Hbk.out
  have d0 : w2.cell? ⟨b, 0, none⟩ = some (.pointer (some ⟨b, 0, none⟩)) := by rw [Lib.cell_of_heap hb2]; rfl
  have d1 : w2.cell? ⟨b, 1, none⟩ = some v := by rw [Lib.cell_of_heap hb2]; rfl
  have f1 : w2.frozen? ⟨b, 1, none⟩ = false := Lib.frozen_of_heap hb2 1
  obtain ⟨a2, cap, rfl⟩ : ∃ a2 cap, v2 = .slice a2 (bs.length + s.size) cap := by
    rcases hown2.2 with ⟨hv, h0⟩ | ⟨g, cap, cur, hv, _⟩
    · exact ⟨none, 0, by rw [hv, h0]⟩
    · exact ⟨_, cap, hv⟩
  have Hb2 := Lib.hid hb2
  have Hown2 := Lib.hid hown2
  have hbel : Below B w w2 := hb1.grown hg2 hBw1 (fun k hk => (Hown.out.lt k hk).1)
  clear hb2 hown2 c0 c1
  go_wp2
  go_ret2
  refine ⟨rfl, .inr ?_, hbel.setCell (p := ⟨b, 1, none⟩) hB _⟩
  have hl : (bs ++ bcells s.data.toList).length = bs.length + s.size := by rw [List.length_append, bcells_length, Array.length_toList]; rfl
  exact Lib.BuilderAt.put (T := 92) (e := 5) hB Hb2.out (bs' := bs ++ bcells s.data.toList) (by rw [hl]; exact Hown2.out) (by decide)
end Go.Proofs.Ytekdcjbjjakhcaa

/-
  DERIVED: THE SHELF's CONTRACTS AT THIS DUMP, IN PLAIN WORDS (tools/lay-plain.mjs out of 'TryShelf.lean', which tools/lay-shelf.mjs wrote): THE SAME DECLARATIONS UNDER THE SAME NAMES: 'import', 'namespace', 'open', 'def', 'theorem' AND NOTHING ELSE: no command of the shelf's: FOR A HAND-IN. Each laying: the table of numbers ('.._ren') and one theorem, a field a fact of the dump's own or the kernel's comparison; each contract: ONE APPLICATION.
-/
namespace Go.Proofs
open Go.Shelf
def Try.lays169_ren : Go.Shelf.Ren := ⟨fun | 169 => 59 | n => n, fun | 70 => 90 | 9 => 9 | 0 => 0 | 72 => 92 | 37 => 82 | 127 => 100 | 3 => 3 | 5 => 5 | n => n, fun | n => n⟩
theorem Try.lays169 : Go.Proofs.Lays.n169 Try.prog Try.lays169_ren := {
  mixed := by kernel_rfl
  f169 := Try.func59.trans (congrArg some (by kernel_rfl))
  t0 := Try.underlying0
  a0 := Try.isAgg0
  z0 := Try.sizeOf0
  v0 := Try.zeroValue0
  t3 := Try.underlying3
  a3 := Try.isAgg3
  z3 := Try.sizeOf3
  v3 := Try.zeroValue3
  t9 := Try.underlying9
  a9 := Try.isAgg9
  z9 := Try.sizeOf9
  v9 := Try.zeroValue9
  t37 := Try.underlying82
  a37 := Try.isAgg82
  z37 := Try.sizeOf82
  v37 := Try.zeroValue82
  t70 := Try.underlying90
  a70 := Try.isAgg90
  z70 := Try.sizeOf90
  v70 := Try.zeroValue90
  t72 := Try.underlying92
  a72 := Try.isAgg92
  z72 := Try.sizeOf92
  v72 := Try.zeroValue92
  t127 := Try.underlying100
  a127 := Try.isAgg100
  z127 := Try.sizeOf100
  v127 := Try.zeroValue100 }
theorem Try.Builder_Extra_169 : Builder.Extra Try.prog Try.lays169_ren := {
  sizeBuilder := by kernel_rfl
  liesBuilder := by kernel_rfl
  t5 := Try.underlying5
  a5 := Try.isAgg5
  z5 := Try.sizeOf5
  v5 := Try.zeroValue5
  infoByte := by kernel_rfl
  cellsByte := by kernel_rfl
  sizeByte := by kernel_rfl
  neB5 := by decide }
open Go.RowKit in
/-- (*strings.Builder).String: "String returns the accumulated string.": OF A BUILDER THAT HOLDS AT LEAST ONE BYTE. ✋ THE MODEL FREEZES THOSE BYTES IN THE BUFFER (unsafe.String): a later write INTO them ends the model's run without an answer; a later append BEHIND them goes on. The statement's order of evaluation is drawn: one draw. (LAID: no walk: one application.) -/
theorem Try.Builder_String (B b : Nat) (l : List UInt8) (w : World) (h : Lib.IsBuilder 92 5 B b (Lib.byteCells l) w) (h0 : l ≠ []) :
    Calls Try.prog 59 #[.pointer (some ⟨b, 0, none⟩)] w fun e w' => e = .returned (.string ⟨l.toArray⟩) ∧ Below B w w' := Any.Builder_String Try.lays169 Try.Builder_Extra_169 B b l w h h0
open Go.RowKit in
/-- (*strings.Builder).String OF A BUILDER THAT HOLDS NO BYTE: the empty string. (Its buffer is nil, or a row of which it has taken nothing yet; where that row has NO capacity the model lays one new block for unsafe.SliceData's 'some address'.) One draw. (LAID: no walk: one application.) -/
theorem Try.Builder_String_empty (B b : Nat) (w : World) (h : Lib.IsBuilder 92 5 B b [] w) (hBw : B ≤ w.heap.size) :
    Calls Try.prog 59 #[.pointer (some ⟨b, 0, none⟩)] w fun e w' => e = .returned (.string ⟨#[]⟩) ∧ Below B w w' := Any.Builder_String_empty Try.lays169 Try.Builder_Extra_169 B b w h hBw
open Go.RowKit in
/-- (*strings.Builder).String: "String returns the accumulated string.": WHATEVER THE BUILDER HOLDS. (LAID: no walk: one application.) -/
theorem Try.Builder_String_any (B b : Nat) (l : List UInt8) (w : World) (h : Lib.IsBuilder 92 5 B b (Lib.byteCells l) w) (hBw : B ≤ w.heap.size) :
    Calls Try.prog 59 #[.pointer (some ⟨b, 0, none⟩)] w fun e w' => e = .returned (.string ⟨l.toArray⟩) ∧ Below B w w' := Any.Builder_String_any Try.lays169 Try.Builder_Extra_169 B b l w h hBw
def Try.lays137_ren : Go.Shelf.Ren := ⟨fun | 137 => 57 | 217 => 61 | 266 => 63 | n => n, fun | 9 => 9 | 5 => 5 | 3 => 3 | n => n, fun | n => n⟩
theorem Try.lays137 : Go.Proofs.Lays.n137 Try.prog Try.lays137_ren := {
  mixed := by kernel_rfl
  f137 := Try.func57.trans (congrArg some (by kernel_rfl))
  f217 := Try.func61.trans (congrArg some (by kernel_rfl))
  f266 := Try.func63.trans (congrArg some (by kernel_rfl))
  t3 := Try.underlying3
  a3 := Try.isAgg3
  z3 := Try.sizeOf3
  v3 := Try.zeroValue3
  t5 := Try.underlying5
  a5 := Try.isAgg5
  z5 := Try.sizeOf5
  v5 := Try.zeroValue5
  t9 := Try.underlying9
  a9 := Try.isAgg9
  z9 := Try.sizeOf9
  v9 := Try.zeroValue9 }
open Go.RowKit in
/-- strings.IndexByte: "IndexByte returns the index of the first instance of c in s, or -1 if c is not present in s.": IT RETURNS 'Lib.indexByte s c'; the world is as it was. (LAID: no walk: one application.) -/
theorem Try.strings_IndexByte (s : ByteArray) (c : Int) (w : World) :
    Calls Try.prog 57 #[.string s, .int .u8 c] w fun e w' => e = .returned (.int .i64 (Lib.indexByte s.data.toList c.toNat.toUInt8)) ∧ w' = w := Any.strings_IndexByte Try.lays137 s c w
def Try.lays217_ren : Go.Shelf.Ren := ⟨fun | 217 => 61 | 266 => 63 | n => n, fun | 9 => 9 | 5 => 5 | 3 => 3 | n => n, fun | n => n⟩
theorem Try.lays217 : Go.Proofs.Lays.n217 Try.prog Try.lays217_ren := {
  mixed := by kernel_rfl
  f217 := Try.func61.trans (congrArg some (by kernel_rfl))
  f266 := Try.func63.trans (congrArg some (by kernel_rfl))
  t3 := Try.underlying3
  a3 := Try.isAgg3
  z3 := Try.sizeOf3
  v3 := Try.zeroValue3
  t5 := Try.underlying5
  a5 := Try.isAgg5
  z5 := Try.sizeOf5
  v5 := Try.zeroValue5
  t9 := Try.underlying9
  a9 := Try.isAgg9
  z9 := Try.sizeOf9
  v9 := Try.zeroValue9 }
open Go.RowKit Go.Lib in
/-- internal/stringslite.IndexByte (what strings.IndexByte calls): IT RETURNS 'Lib.indexByte s c'; the world is as it was. (LAID: no walk: one application.) -/
theorem Try.stringslite_IndexByte (s : ByteArray) (c : Int) (w : World) :
    Calls Try.prog 61 #[.string s, .int .u8 c] w fun e w' => e = .returned (.int .i64 (Lib.indexByte s.data.toList c.toNat.toUInt8)) ∧ w' = w := Any.stringslite_IndexByte Try.lays217 s c w
end Go.Proofs

namespace Go.Proofs.Ytekdcjbjjakhcaa
open Go Go.RowKit

def UnescPost (w : World) (r : Option (List UInt8 × List UInt8)) (e : Ending) (w' : World) : Prop :=
  ((∃ x, r = some x ∧ e = .returned (.tuple #[.string ⟨x.1.toArray⟩, .string ⟨x.2.toArray⟩, .bool true])) ∨ r = none ∧ e = .returned (.tuple #[.string ⟨#[]⟩, .string ⟨#[]⟩, .bool false])) ∧ Below w.heap.size w w'

def UnescRel (w : World) (l : List UInt8) (s : Value) (wr : World) : Prop :=
  ∃ (t : ByteArray) (k : List UInt8), s = .string t ∧ t.size ≤ l.length ∧ k.length + t.size ≤ l.length ∧ unesc l = (unesc t.data.toList).map (fun x => (k ++ x.1, x.2)) ∧
    Lib.IsBuilder 92 5 w.heap.size w.heap.size (bcells k) wr ∧ Below w.heap.size w wr ∧ w.heap.size < wr.heap.size

def strLen : Value → Nat
  | .string t => t.size
  | _ => 0

theorem indexByte_any (s : ByteArray) (w : World) : Calls Try.prog 57 #[.string s, .int .u8 0] w fun e w' => e = .returned (.int .i64 (Lib.indexByte s.data.toList 0)) ∧ w = w' :=
  (Try.strings_IndexByte s 0 w).mono fun _ _ ⟨h1, h2⟩ => ⟨h1, h2.symm⟩

set_option maxRecDepth 100000 in
set_option maxHeartbeats 2000000 in
theorem unescape_any (w : World) (s : ByteArray) (hs : s.size ≤ 10000000000) :
    Calls Try.prog 56 #[.string s] w (UnescPost w (unesc s.data.toList)) := by
  have hsl : s.data.toList.length = s.size := Array.length_toList
  have hst : UnescRel w s.data.toList (.string s) (w.alloc (.cells #[.pointer none, .slice none 0 0] 92)) :=
    ⟨s, [], rfl, by omega, by simp, by cases unesc s.data.toList <;> simp, Lib.fresh_isBuilder _ _ _, (Below.refl _ _).alloc (Nat.le_refl _) _, by simp⟩
  have Hsl := Lib.hid hsl
  have Hst := Lib.hid hst
  clear hsl hst
  go_enter Try.func56, Try.ntmps56
  go_wp2
  go_loopw [0] (fun s' wr => UnescRel w s.data.toList s' wr) (fun s' _ => strLen s')
  case atStart => exact Hst.out
  case round =>
    obtain ⟨t, k, rfl, ht, hk, heq, hbd, hbel, hlt⟩ := hrel
    have hge := Lib.indexByte_ge t.data.toList 0
    have htl : t.data.toList.length = t.size := Array.length_toList
    have Heq := Lib.hid heq
    have Htl := Lib.hid htl
    have hkb : (bcells k).length ≤ 10000000000 := by rw [bcells_length]; have := Hsl.out; omega
    have hts : t.size ≤ 10000000000 := by have := Hsl.out; omega
    clear heq htl
    by_cases hi : Lib.indexByte t.data.toList 0 = -1
    · have hn := unesc_none (Lib.indexByte_none hi)
      have Hn := Lib.hid hn
      have Hi := Lib.hid hi
      clear hn hi
      go_wp2_with (go_at_call 57; go_must (refine (indexByte_any t _).mono ?_); rintro e w1 ⟨rfl, rfl⟩; rw [Hi.out])
      go_wp2
      go_ret3
      exact ⟨.inr ⟨by rw [Heq.out, Hn.out]; rfl, rfl⟩, hbel⟩
    · obtain ⟨o, ho⟩ : ∃ o : Nat, Lib.indexByte t.data.toList 0 = o := ⟨(Lib.indexByte t.data.toList 0).toNat, by omega⟩
      obtain ⟨hz, hbef⟩ := Lib.indexByte_some ho
      have hat := unesc_at hz hbef
      have hol : o < t.size := by
        have := (List.getElem?_eq_some_iff.1 hz).1
        rw [Htl.out] at this
        exact this
      have Ho := Lib.hid ho
      clear ho hi hbef hz hge
      by_cases h1 : o + 1 < t.size
      · have hd : t.data.toList[o + 1]? = some t[o + 1] := by
          rw [List.getElem?_eq_getElem (by rw [Htl.out]; exact h1)]
          rfl
        rw [hd] at hat
        simp only at hat
        have Hat := Lib.hid hat
        clear hat hd
        by_cases d1 : t[o + 1] = 1
        · have dx := d1
          have e1 : ((t[o + 1].toNat : Int) == 1) = true := by rw [d1]; rfl
          clear d1
          have Dx := Lib.hid dx
          clear dx
          go_wp2_with (go_at_call 57; go_must (refine (indexByte_any t _).mono ?_); rintro e w1 ⟨rfl, rfl⟩; rw [Ho.out])
          go_wp2_with (go_at_call 58; go_must (refine (writeString_any _ _ _ (t.extract 0 o) _ hbd (by simp [ByteArray.size_extract]; omega) (by omega)).mono ?_))
          rintro e w2 ⟨rfl, hbd2, hb2⟩
          rw [← bcells_append, Lib.extract_from_zero] at hbd2
          have hs2 : w.heap.size < w2.heap.size := Nat.lt_of_lt_of_le hlt hb2.size
          have hbel2 := hbel.trans hb2
          go_wp2_with (go_at_call 59; go_must (refine (Try.Builder_String_any w.heap.size w.heap.size (k ++ t.data.toList.take o) _ hbd2 (by omega)).mono ?_))
          rintro e w3 ⟨rfl, hb3⟩
          go_wp2
          go_ret3
          refine ⟨.inl ⟨(k ++ t.data.toList.take o, t.data.toList.drop (o + 2)), ?_, ?_⟩, hbel2.trans hb3⟩
          · rw [Heq.out, Hat.out, if_pos Dx.out]
            rfl
          · have e : (⟨(t.data.toList.drop (o + 2)).toArray⟩ : ByteArray) = t.extract (o + 2) t.size := by rw [← Lib.extract_to_end]
            rw [e]
            rfl
        · by_cases d2 : t[o + 1] = 255
          · have dx := And.intro d1 d2
            have e1 : ((t[o + 1].toNat : Int) == 1) = false := by rw [d2]; rfl
            have e2 : ((t[o + 1].toNat : Int) == 255) = true := by rw [d2]; rfl
            clear d1 d2
            have Dx := Lib.hid dx
            clear dx
            go_wp2_with (go_at_call 57; go_must (refine (indexByte_any t _).mono ?_); rintro e w1 ⟨rfl, rfl⟩; rw [Ho.out])
            go_wp2_with (go_at_call 58; go_must (refine (writeString_any _ _ _ (t.extract 0 o) _ hbd (by simp [ByteArray.size_extract]; omega) (by omega)).mono ?_))
            rintro e w2 ⟨rfl, hbd2, hb2⟩
            rw [← bcells_append, Lib.extract_from_zero] at hbd2
            have hs2 : w.heap.size < w2.heap.size := Nat.lt_of_lt_of_le hlt hb2.size
            have hbel2 := hbel.trans hb2
            go_wp2_with (go_at_call 60; go_must (refine (writeByte_any w.heap.size w.heap.size _ 0 _ hbd2 (by rw [bcells_length, List.length_append, List.length_take, Htl.out]; have := Hsl.out; omega) (by omega)).mono ?_))
            rintro e w3 ⟨rfl, hbd3, hb3⟩
            go_wp2
            refine ⟨⟨t.extract (o + 2) t.size, k ++ t.data.toList.take o ++ [0], rfl, ?_, ?_, ?_, ?_, hbel2.trans hb3, Nat.lt_of_lt_of_le hs2 hb3.size⟩, ?_⟩
            · have h3 := Hsl.out
              have h4 : (t.extract (o + 2) t.size).size = t.size - (o + 2) := by simp [ByteArray.size_extract]
              omega
            · have h3 := Hsl.out
              have h4 : (t.extract (o + 2) t.size).size = t.size - (o + 2) := by simp [ByteArray.size_extract]
              rw [List.length_append, List.length_append, List.length_take, Htl.out, Nat.min_eq_left (by omega), h4]
              simp only [List.length_singleton]
              omega
            · rw [Heq.out, Hat.out, if_neg Dx.out.1, if_pos Dx.out.2, Lib.extract_to_end]
              simp [Option.map_map, Function.comp_def]
            · rw [← bcells_append] at hbd3
              exact hbd3
            · simp [strLen, ByteArray.size_extract]; omega
          · have dx := And.intro d1 d2
            have e1 : ((t[o + 1].toNat : Int) == 1) = false := by
              rw [beq_eq_false_iff_ne]
              intro h
              exact d1 (UInt8.toNat_inj.1 (by simp; omega))
            have e2 : ((t[o + 1].toNat : Int) == 255) = false := by
              rw [beq_eq_false_iff_ne]
              intro h
              exact d2 (UInt8.toNat_inj.1 (by simp; omega))
            clear d1 d2
            have Dx := Lib.hid dx
            clear dx
            go_wp2_with (go_at_call 57; go_must (refine (indexByte_any t _).mono ?_); rintro e w1 ⟨rfl, rfl⟩; rw [Ho.out])
            go_wp2_with (go_at_call 58; go_must (refine (writeString_any _ _ _ (t.extract 0 o) _ hbd (by simp [ByteArray.size_extract]; omega) (by omega)).mono ?_))
            rintro e w2 ⟨rfl, hbd2, hb2⟩
            rw [← bcells_append, Lib.extract_from_zero] at hbd2
            have hs2 : w.heap.size < w2.heap.size := Nat.lt_of_lt_of_le hlt hb2.size
            have hbel2 := hbel.trans hb2
            go_wp2
            go_ret3
            exact ⟨.inr ⟨by rw [Heq.out, Hat.out, if_neg Dx.out.1, if_neg Dx.out.2]; rfl, rfl⟩, hbel2⟩
      · have hn : t.data.toList[o + 1]? = none := List.getElem?_eq_none (by rw [Htl.out]; omega)
        rw [hn] at hat
        simp only at hat
        have Hat := Lib.hid hat
        clear hat hn
        go_wp2_with (go_at_call 57; go_must (refine (indexByte_any t _).mono ?_); rintro e w1 ⟨rfl, rfl⟩; rw [Ho.out])
        go_wp2
        go_ret3
        exact ⟨.inr ⟨by rw [Heq.out, Hat.out]; rfl, rfl⟩, hbel⟩

theorem unescape_none (w : World) (s : ByteArray) (hs : s.size ≤ 10000000000) (h : unesc s.data.toList = none) :
    Calls Try.prog 56 #[.string s] w fun e w' => e = .returned (.tuple #[.string ⟨#[]⟩, .string ⟨#[]⟩, .bool false]) ∧ Below w.heap.size w w' :=
  (unescape_any w s hs).mono fun e w' ⟨h1, b1⟩ => by
    rcases h1 with ⟨x, hx, _⟩ | ⟨_, he⟩
    · rw [h] at hx; cases hx
    · exact ⟨he, b1⟩

theorem unescape_some (w : World) (s t : ByteArray) (hs : s.size ≤ 10000000000) {k : List UInt8} (h : unesc s.data.toList = some (k, t.data.toList)) :
    Calls Try.prog 56 #[.string s] w fun e w' => e = .returned (.tuple #[.string ⟨k.toArray⟩, .string t, .bool true]) ∧ Below w.heap.size w w' :=
  (unescape_any w s hs).mono fun e w' ⟨h1, b1⟩ => by
    rcases h1 with ⟨x, hx, he⟩ | ⟨hx, _⟩
    · rw [h] at hx; cases hx; exact ⟨he, b1⟩
    · rw [h] at hx; cases hx
end Go.Proofs.Ytekdcjbjjakhcaa

namespace Go.Proofs.Ytekdcjbjjakhcaa
open Go.RowKit

theorem not_u64 (a : Nat) (ha : a < 18446744073709551616) : bits BinOp.xor .u64 IntKind.u64.max (a : Int) = ((18446744073709551615 - a : Nat) : Int) := by
  show IntKind.u64.wrap ((BitVec.ofInt 64 (IntKind.u64.max) ^^^ BitVec.ofInt 64 (a : Int)).toNat : Int) = _
  have h1 : BitVec.ofInt 64 (IntKind.u64.max) = BitVec.allOnes 64 := by decide
  rw [h1, BitVec.allOnes_xor, BitVec.toNat_not, ofInt_u64 a ha, IntKind.wrap_u64]
  omega

theorem pow256 (k : Nat) : (256 : Nat) ^ k = 2 ^ (8 * k) := by rw [Nat.pow_mul]

theorem revByte_go (rev k : Nat) (hr : rev < 18446744073709551616) (hk : k < 8) :
    bits BinOp.xor .u64 IntKind.u64.max (rev : Int) / 2 ^ (56 - 8 * k) % 256 = ((revByte rev (7 - k)).toNat : Int) := by
  rw [not_u64 rev hr, ← revByte_up rev (7 - k) hr (by omega), pow256, show 8 * (7 - k) = 56 - 8 * k by omega]
  simp

/-- A string is handed back; nothing old is changed. -/
def GivesText (w : World) (l : List UInt8) (e : Ending) (w' : World) : Prop := e = .returned (.string ⟨l.toArray⟩) ∧ Below w.heap.size w w'

def box (key : ByteArray) (rev : Nat) (del : Bool) : Obj := .cells #[.string key, .int .u64 (rev : Int), .bool del] 48

/-- the first loop: k bytes of the key are written -/
def InnRel1 (w : World) (key : ByteArray) (rev : Nat) (del : Bool) (kb : Nat) (cap : Nat) (v c : Value) (wr : World) : Prop :=
  ∃ k : Nat, c = .int .i64 (k : Int) ∧ k ≤ key.size ∧ Fresh (w.heap.size + 1) wr 5 1 v (esc (key.data.toList.take k)).length (bcells (esc (key.data.toList.take k))) ∧
    Below (w.heap.size + 1) (w.alloc (box key rev del)) wr ∧ Reads wr 1 (.slice (some ⟨kb, 0, none⟩) key.size cap) key.size (bcells key.data.toList) ∧ v.ownBlock ≠ some kb ∧ kb < wr.heap.size

/-- the second loop: k bytes of the revision are written -/
def InnRel2 (w : World) (key : ByteArray) (rev : Nat) (del : Bool) (v c : Value) (wr : World) : Prop :=
  ∃ k : Nat, c = .int .i64 (k : Int) ∧ k ≤ 8 ∧ Fresh (w.heap.size + 1) wr 5 1 v (innTo key.data.toList rev k).length (bcells (innTo key.data.toList rev k)) ∧
    Below (w.heap.size + 1) (w.alloc (box key rev del)) wr

set_option maxRecDepth 100000 in
set_option maxHeartbeats 1000000 in
theorem inner_any (w : World) (key : ByteArray) (rev : Nat) (del : Bool) (hn : key.size ≤ 1000000000) (hR : rev < 18446744073709551616) :
    Calls Try.prog 53 #[.agg #[.string key, .int .u64 rev, .bool del]] w (GivesText w (inner key.data.toList rev del)) := by
  obtain ⟨i0, hi, hz0, hz1, hz2⟩ := info_parts info5
  have HR := Lib.hid hR
  clear hR
  go_enter Try.func53, Try.ntmps53
  go_wp2_with (at_make; go_must (refine wpList_make_fresh rfl _ _ 82 rfl (w.heap.size + 1) 5 i0 (.int .u8 0) 1 1 Try.underlying82 hi hz0 hz1 hz2 .i64 .i64 _ (key.size + 11) rfl rfl ?_ ?_ ?_ ?_ ?_))
  · omega
  · omega
  · unfold maxLen; omega
  · simp
  intro w1 f1 g1 b1 s1
  have b2 : Below (w.heap.size + 1) (w.alloc (box key rev del)) w1 := b1.mono (by simp)
  have c0 : w1.cell? ⟨w.heap.size, 0, none⟩ = some (.string key) := (b2.cell (p := ⟨w.heap.size, 0, none⟩) (by simp)).trans (World.cell?_alloc_new w _ _ 0)
  go_wp2_with (refine wpList_bytes rfl _ 9 82 5 rfl Try.underlying9 Try.underlying82 Try.underlying5 key rfl ?_ ?_)
  · unfold maxLen; omega
  intro cap w2 r2 g2 b3 s2
  have f2 := f1.grown g2 (.inr (by simp [Value.ownBlock]))
  have b4 := b2.trans (b3.mono (B' := w.heap.size + 1) (by omega))
  have hkb : w1.heap.size ≠ w.heap.size + 1 := by omega
  clear f1 g1 b1 b2 c0 g2 b3
  generalize w1.heap.size = kb at *
  go_wp2
  go_loopw [3, 17] (fun v c wr => InnRel1 w key rev del kb cap v c wr) (fun _ c _ => key.size - (intOf c).toNat)
  case atStart => exact ⟨0, rfl, Nat.zero_le _, f2, b4, r2, by simp [Value.ownBlock]; omega, s2⟩
  case round =>
    obtain ⟨k, rfl, hk, f3, b5, r3, o3, s3⟩ := hrel
    clear f2 b4 r2 s2
    have hl := esc_length (key.data.toList.take k)
    have hkl : (key.data.toList.take k).length ≤ k := List.length_take_le _ _
    have hbs := b5.size
    simp at hbs
    by_cases hlt : k < key.size
    · obtain ⟨b, off, cap', hv, h1, h2, h3, hcell⟩ := r3.head (by omega)
      cases hv
      have c1 := hcell k hlt
      simp only [Nat.zero_add] at c1
      have Hc := Lib.hid hcell
      clear hcell h1 h2
      generalize hc : key.data.toList.getD k 0 = c at c1
      have Hcc := Lib.hid hc
      clear hc
      have hcl := c.toNat_lt
      have htk : key.data.toList.take (k + 1) = key.data.toList.take k ++ [c] := by
        have hlt' : k < key.data.toList.length := by rw [Array.length_toList]; exact hlt
        have hlt2 : k < key.data.size := hlt
        rw [List.take_succ_eq_append_getElem hlt', ← Hcc.out]
        simp [List.getD, Array.getElem?_eq_getElem hlt2]
      have Htk := Lib.hid htk
      clear htk
      by_cases hz : c.toNat = 0
      · have hz' : ((c.toNat : Int) == 0) = true := by simp; omega
        have HZ := Lib.hid hz
        clear hz
        go_wp2_with (at_builtin; go_must (refine wpList_append_one (w0 := wr) rfl _ _ 82 rfl (w.heap.size + 1) 5 i0 (.int .u8 0) 1 Try.underlying82 hi hz0 hz1 hz2 rfl f3 rfl rfl rfl ?_ ?_ hbs ?_))
        · unfold maxLen; omega
        · omega
        intro v1 w4 f4 g4 b6 m4
        rw [bcells_snoc _ c rfl] at f4
        have r4 := r3.grown g4 (.inr (fun e => o3 e.symm))
        have o4 := m4 kb s3 o3
        have s4 : kb < w4.heap.size := Nat.lt_of_lt_of_le s3 g4.size
        have b7 := b5.trans b6
        have hbs4 : w.heap.size + 1 ≤ w4.heap.size := Nat.le_trans hbs g4.size
        clear f3 g4 b6 m4 r3 o3 s3 b5 hbs c1
        go_wp2_with (at_builtin; go_must (refine wpList_append_one (w0 := w4) rfl _ _ 82 rfl (w.heap.size + 1) 5 i0 (.int .u8 0) 1 Try.underlying82 hi hz0 hz1 hz2 rfl f4 rfl rfl rfl ?_ ?_ hbs4 ?_))
        · unfold maxLen; omega
        · omega
        intro v2 w5 f5 g5 b8 m5
        rw [bcells_snoc (z := 255) _ (255 : UInt8) rfl] at f5
        have r5 := r4.grown g5 (.inr (fun e => o4 e.symm))
        have o5 := m5 kb s4 o4
        have s5 : kb < w5.heap.size := Nat.lt_of_lt_of_le s4 g5.size
        have b9 := b7.trans b8
        go_wp2
        refine ⟨⟨k + 1, by go_num, by omega, ?_, b9, r5, o5, s5⟩, by simp [intOf]; omega⟩
        rw [Htk.out, esc_snoc0 _ _ (UInt8.toNat_inj.1 (by simpa using HZ.out))]
        simpa [List.append_assoc] using f5
      · have hz' : ((c.toNat : Int) == 0) = false := by simp; omega
        have HZ := Lib.hid hz
        clear hz
        go_wp2_with (at_builtin; go_must (refine wpList_append_one (w0 := wr) rfl _ _ 82 rfl (w.heap.size + 1) 5 i0 (.int .u8 0) 1 Try.underlying82 hi hz0 hz1 hz2 rfl f3 rfl rfl rfl ?_ ?_ hbs ?_))
        · unfold maxLen; omega
        · omega
        intro v1 w4 f4 g4 b6 m4
        rw [bcells_snoc _ c rfl] at f4
        have r4 := r3.grown g4 (.inr (fun e => o3 e.symm))
        have o4 := m4 kb s3 o3
        have s4 : kb < w4.heap.size := Nat.lt_of_lt_of_le s3 g4.size
        have b7 := b5.trans b6
        go_wp2
        refine ⟨⟨k + 1, by go_num, by omega, ?_, b7, r4, o4, s4⟩, by simp [intOf]; omega⟩
        rw [Htk.out, esc_snoc1 _ _ (fun e => HZ.out (by rw [e]; rfl))]
        simpa [List.append_assoc] using f4
    · have hge : ¬ ((k : Int) < key.size) := by omega
      obtain rfl : k = key.size := by omega
      have hfull : key.data.toList.take key.size = key.data.toList := List.take_of_length_le (by rw [Array.length_toList]; exact Nat.le_refl _)
      rw [hfull] at f3 hl hkl
      clear hfull r3 o3 s3
      go_wp2_with (at_builtin; go_must (refine wpList_append_lits (w0 := wr) rfl _ _ 82 rfl (w.heap.size + 1) 5 i0 (.int .u8 0) 1 Try.underlying82 hi hz0 hz1 hz2 rfl [.int .u8 0, .int .u8 1] 2 rfl f3 rfl rfl (fun u hu => by simp at hu; rcases hu with rfl | rfl <;> rfl) ?_ ?_ hbs ?_))
      · unfold maxLen; omega
      · omega
      intro v1 w4 f4 g4 b6 m4
      have b7 := b5.trans b6
      have f5 : Fresh (w.heap.size + 1) w4 5 1 v1 (innTo key.data.toList rev 0).length (bcells (innTo key.data.toList rev 0)) := by
        have e : innTo key.data.toList rev 0 = esc key.data.toList ++ [0, 1] := by simp [innTo, revBytes]
        rw [e, List.length_append, bcells_append]
        exact f4
      clear f3 g4 b6 m4 b5 hbs f4
      have hl2 : key.data.toList.length = key.size := Array.length_toList
      go_wp2
      go_loopw [3, 34] (fun v c wr => InnRel2 w key rev del v c wr) (fun _ c _ => 20 - (intOf c).toNat)
      case atStart => exact ⟨0, rfl, by omega, f5, b7⟩
      case round =>
        obtain ⟨k, rfl, hk, f6, b8⟩ := hrel
        clear f5 b7
        have hbs := b8.size
        simp at hbs
        have c1 := (b8.cell (p := ⟨w.heap.size, 1, none⟩) (by simp)).trans (World.cell?_alloc_new w _ _ 1)
        have c2 := (b8.cell (p := ⟨w.heap.size, 2, none⟩) (by simp)).trans (World.cell?_alloc_new w _ _ 2)
        simp at c1 c2
        have hl3 : (innTo key.data.toList rev k).length ≤ 2000000100 := by rw [innTo_length]; omega
        by_cases hlt : k < 8
        · go_wp2_with (at_builtin; go_must (refine wpList_append_one (w0 := wr) rfl _ _ 82 rfl (w.heap.size + 1) 5 i0 (.int .u8 0) 1 Try.underlying82 hi hz0 hz1 hz2 rfl f6 rfl rfl rfl ?_ ?_ hbs ?_))
          · unfold maxLen; omega
          · omega
          intro v2 w5 f7 g7 b9 m7
          rw [bcells_snoc _ _ (revByte_go rev k HR.out hlt)] at f7
          have b10 := b8.trans b9
          go_wp2
          refine ⟨⟨k + 1, by go_num, by omega, ?_, b10⟩, by simp [intOf]; omega⟩
          rw [innTo_succ, List.length_append]
          exact f7
        · have hge8 : ¬ ((k : Int) < 8) := by omega
          obtain rfl : k = 8 := by omega
          cases del
          · go_wp2_with (at_builtin; go_must (refine wpList_append_one (w0 := wr) rfl _ _ 82 rfl (w.heap.size + 1) 5 i0 (.int .u8 0) 1 Try.underlying82 hi hz0 hz1 hz2 rfl f6 rfl rfl rfl ?_ ?_ hbs ?_))
            · unfold maxLen; omega
            · omega
            intro v2 w5 f7 g7 b9 m7
            have b10 := b8.trans b9
            have f8 := bcells_snoc (innTo key.data.toList rev 8) (1 : UInt8) (z := 1) rfl
            rw [f8] at f7
            have hcv2 := Reads.conv (P := Try.prog) (src := 82) (e := 5) (dst := 9) Try.underlying82 Try.underlying5 Try.underlying9 f7.1
            clear f8
            go_wp2
            go_ret
            exact ⟨by simp [inner], ((Below.refl _ _).alloc (Nat.le_refl _) _).trans (b10.mono (by omega))⟩
          · go_wp2_with (at_builtin; go_must (refine wpList_append_one (w0 := wr) rfl _ _ 82 rfl (w.heap.size + 1) 5 i0 (.int .u8 0) 1 Try.underlying82 hi hz0 hz1 hz2 rfl f6 rfl rfl rfl ?_ ?_ hbs ?_))
            · unfold maxLen; omega
            · omega
            intro v2 w5 f7 g7 b9 m7
            have b10 := b8.trans b9
            have f8 := bcells_snoc (innTo key.data.toList rev 8) (0 : UInt8) (z := 0) rfl
            rw [f8] at f7
            have hcv2 := Reads.conv (P := Try.prog) (src := 82) (e := 5) (dst := 9) Try.underlying82 Try.underlying5 Try.underlying9 f7.1
            clear f8
            go_wp2
            go_ret
            exact ⟨by simp [inner], ((Below.refl _ _).alloc (Nat.le_refl _) _).trans (b10.mono (by omega))⟩
end Go.Proofs.Ytekdcjbjjakhcaa

namespace Go.Proofs.Ytekdcjbjjakhcaa
open Go Go.RowKit

def entryVal : Option (List UInt8 × Nat × Bool) → Value
  | none => .tuple #[.agg #[.string ⟨#[]⟩, .int .u64 0, .bool false], .int .i64 9]
  | some (k, r, d) => .tuple #[.agg #[.string ⟨k.toArray⟩, .int .u64 (r : Int), .bool d], .int .i64 0]

def OuterPost (w : World) (r : Option (List UInt8 × Nat × Bool)) (e : Ending) (w' : World) : Prop := e = .returned (entryVal r) ∧ Below w.heap.size w w'

def RevRel (r : List UInt8) (v c : Value) : Prop := ∃ k : Nat, c = .int .i64 (k : Int) ∧ k ≤ 8 ∧ v = .int .u64 (beVal (r.take k) : Int)

theorem or_u64 (x c : Nat) (hx : x < 72057594037927936) (hc : c < 256) : bits BinOp.or .u64 ((x : Int) * 256) (c : Int) = ((x * 256 + c : Nat) : Int) := by
  have e : ((x : Int) * 256) = ((x * 256 : Nat) : Int) := by simp
  rw [e, u64_or_nat _ _ (by omega) (by omega), nat_join 8 _ _ (by omega) (by omega)]

set_option maxRecDepth 100000 in
set_option maxHeartbeats 2000000 in
theorem outer_any (w : World) (s : ByteArray) (hs : s.size ≤ 10000000000) :
    Calls Try.prog 52 #[.string s] w (OuterPost w (outer s.data.toList)) := by
  cases hu : unesc s.data.toList with
  | none =>
    have ho : outer s.data.toList = none := by unfold outer; rw [hu]
    rw [ho]
    clear ho
    have Hu := Lib.hid hu
    clear hu
    go_enter Try.func52, Try.ntmps52
    go_wp2_with (go_at_call 56; go_must (refine (unescape_none _ s hs Hu.out).mono ?_); rintro e w1 ⟨rfl, b1⟩; have c0 := (entryBox (by simpa using b1)).1 0; have c1 := (entryBox (by simpa using b1)).1 1; have c2 := (entryBox (by simpa using b1)).1 2; have f0 := (entryBox (by simpa using b1)).2 0; have f1 := (entryBox (by simpa using b1)).2 1; have f2 := (entryBox (by simpa using b1)).2 2; simp at c0 c1 c2)
    refine bodyPost_ret (v := entryVal none) (by simp [results, Try.results52, go_sem, entryVal, c0, c1, c2]) rfl ⟨rfl, ?_⟩
    have hb : Below w.heap.size w w1 := ((Below.refl _ _).alloc (Nat.le_refl _) _).trans (b1.mono (by simp))
    exact ((hb.setCell (p := ⟨w.heap.size, 0, none⟩) (Nat.le_refl _) _).setCell (p := ⟨w.heap.size, 1, none⟩) (Nat.le_refl _) _).setCell (p := ⟨w.heap.size, 2, none⟩) (Nat.le_refl _) _
  | some x =>
    obtain ⟨k, r⟩ := x
    obtain ⟨t, rfl⟩ : ∃ t : ByteArray, r = t.data.toList := ⟨⟨r.toArray⟩, rfl⟩
    have htl : t.data.toList.length = t.size := Array.length_toList
    have Hu := Lib.hid hu
    by_cases hr : t.data.toList.length = 9 ∧ (t.data.toList.getD 8 0).toNat ≤ 1
    · have ho : outer s.data.toList = some (k, 18446744073709551615 - beVal (t.data.toList.take 8), decide ((t.data.toList.getD 8 0).toNat = 0)) := by unfold outer; rw [hu]; exact if_pos hr
      rw [ho]
      clear ho hu
      obtain ⟨h9, h8⟩ := hr
      have hsz : t.size = 9 := by omega
      have h8t : 8 < t.size := by omega
      have hg8 : t.data.toList.getD 8 0 = t[8] := by
        rw [List.getD_eq_getElem?_getD, List.getElem?_eq_getElem (by omega)]
        rfl
      rw [hg8] at h8 ⊢
      have Htl := Lib.hid htl
      have h8' : ¬ (1 : Int) < t[8].toNat := by omega
      have Hsz := Lib.hid hsz
      have hne : ((t.size : Int) != 9) = false := by simp [hsz]
      clear htl h9 hsz hg8
      go_enter Try.func52, Try.ntmps52
      go_wp2_with (go_at_call 56; go_must (refine (unescape_some _ s t hs Hu.out).mono ?_); rintro e w1 ⟨rfl, b1⟩; have c0 := (entryBox (by simpa using b1)).1 0; have c1 := (entryBox (by simpa using b1)).1 1; have c2 := (entryBox (by simpa using b1)).1 2; have f0 := (entryBox (by simpa using b1)).2 0; have f1 := (entryBox (by simpa using b1)).2 1; have f2 := (entryBox (by simpa using b1)).2 2; simp at c0 c1 c2)
      have hb : Below w.heap.size w w1 := ((Below.refl _ _).alloc (Nat.le_refl _) _).trans (b1.mono (by simp))
      have Hb := Lib.hid hb
      clear b1 hb
      go_loop [7, 28] (fun v c => RevRel t.data.toList v c) (fun _ c => 20 - (intOf c).toNat)
      case atStart => exact ⟨0, rfl, by omega, rfl⟩
      case round =>
        obtain ⟨j, rfl, hj, rfl⟩ := hrel
        have hlt8 : beVal (t.data.toList.take j) < 256 ^ j := by
          have h := beVal_lt (t.data.toList.take j)
          rwa [List.length_take, Htl.out, Hsz.out, Nat.min_eq_left (by omega)] at h
        have Hlt := Lib.hid hlt8
        clear hlt8
        by_cases hj8 : j < 8
        · have hjt : j < t.size := by omega
          have hV : beVal (t.data.toList.take j) < 72057594037927936 := by
            have h1 := Hlt.out
            have h2 : 256 ^ j ≤ 256 ^ 7 := Nat.pow_le_pow_right (by omega) (by omega)
            have h3 : (256 : Nat) ^ 7 = 72057594037927936 := by decide
            omega
          have hor := or_u64 (beVal (t.data.toList.take j)) t[j].toNat hV t[j].toNat_lt
          have HV := Lib.hid hV
          have hsn : beVal (t.data.toList.take (j + 1)) = beVal (t.data.toList.take j) * 256 + t[j].toNat := by
            have hjl : j < t.data.toList.length := by rw [Htl.out]; exact hjt
            rw [List.take_succ_eq_append_getElem hjl, beVal_snoc]
            rfl
          have Hsn := Lib.hid hsn
          have Hor := Lib.hid hor
          clear hV hsn hor
          have e1 : IntKind.u64.wrap ((beVal (t.data.toList.take j) : Int) * 256) = (beVal (t.data.toList.take j) : Int) * 256 := by
            rw [IntKind.wrap_u64]
            have := HV.out
            omega
          have e2 : IntKind.u64.wrap (t[j].toNat : Int) = (t[j].toNat : Int) := by
            rw [IntKind.wrap_u64]
            have := t[j].toNat_lt
            omega
          have E1 := Lib.hid e1
          have E2 := Lib.hid e2
          clear e1 e2
          go_wp2
          refine ⟨⟨j + 1, by go_num, by omega, ?_⟩, by simp [intOf]; omega⟩
          rw [E1.out, E2.out, Hor.out, Hsn.out]
        · have hj8' : ¬ ((j : Int) < 8) := by omega
          obtain rfl : j = 8 := by omega
          have hx : beVal (t.data.toList.take 8) < 18446744073709551616 := by
            have h1 := Hlt.out
            have h3 : (256 : Nat) ^ 8 = 18446744073709551616 := by decide
            omega
          have hnot := not_u64 _ hx
          have Hn := Lib.hid hnot
          clear hx hnot
          go_wp2
          rw [Hn.out]
          refine bodyPost_ret (v := entryVal (some (k, 18446744073709551615 - beVal (t.data.toList.take 8), decide (t[8].toNat = 0)))) ?_ rfl ⟨rfl, ?_⟩
          · have hb : ((t[8].toNat : Int) == 0) = decide (t[8].toNat = 0) := by
              rw [Bool.eq_iff_iff]; simp
            simp [results, Try.results52, go_sem, entryVal, c0, c1, c2]
            omega
          · exact ((Hb.out.setCell (p := ⟨w.heap.size, 0, none⟩) (Nat.le_refl _) _).setCell (p := ⟨w.heap.size, 1, none⟩) (Nat.le_refl _) _).setCell (p := ⟨w.heap.size, 2, none⟩) (Nat.le_refl _) _
    · have ho : outer s.data.toList = none := by unfold outer; rw [hu]; exact if_neg hr
      rw [ho]
      clear ho hu
      have Htl := Lib.hid htl
      by_cases h9 : t.size = 9
      · have h8t : 8 < t.size := by omega
        have hg8 : t.data.toList.getD 8 0 = t[8] := by
          rw [List.getD_eq_getElem?_getD, List.getElem?_eq_getElem (by omega)]
          rfl
        rw [hg8] at hr
        have h8' : (1 : Int) < t[8].toNat := by omega
        have hne : ((t.size : Int) != 9) = false := by simp [h9]
        clear htl h9 hg8 hr
        go_enter Try.func52, Try.ntmps52
        go_wp2_with (go_at_call 56; go_must (refine (unescape_some _ s t hs Hu.out).mono ?_); rintro e w1 ⟨rfl, b1⟩; have c0 := (entryBox (by simpa using b1)).1 0; have c1 := (entryBox (by simpa using b1)).1 1; have c2 := (entryBox (by simpa using b1)).1 2; have f0 := (entryBox (by simpa using b1)).2 0; have f1 := (entryBox (by simpa using b1)).2 1; have f2 := (entryBox (by simpa using b1)).2 2; simp at c0 c1 c2)
        refine bodyPost_ret (v := entryVal none) (by simp [results, Try.results52, go_sem, entryVal, c0, c1, c2]) rfl ⟨rfl, ?_⟩
        have hb : Below w.heap.size w w1 := ((Below.refl _ _).alloc (Nat.le_refl _) _).trans (b1.mono (by simp))
        exact ((hb.setCell (p := ⟨w.heap.size, 0, none⟩) (Nat.le_refl _) _).setCell (p := ⟨w.heap.size, 1, none⟩) (Nat.le_refl _) _).setCell (p := ⟨w.heap.size, 2, none⟩) (Nat.le_refl _) _
      · have hne : ((t.size : Int) != 9) = true := by simp; omega
        clear htl h9 hr
        go_enter Try.func52, Try.ntmps52
        go_wp2_with (go_at_call 56; go_must (refine (unescape_some _ s t hs Hu.out).mono ?_); rintro e w1 ⟨rfl, b1⟩; have c0 := (entryBox (by simpa using b1)).1 0; have c1 := (entryBox (by simpa using b1)).1 1; have c2 := (entryBox (by simpa using b1)).1 2; have f0 := (entryBox (by simpa using b1)).2 0; have f1 := (entryBox (by simpa using b1)).2 1; have f2 := (entryBox (by simpa using b1)).2 2; simp at c0 c1 c2)
        refine bodyPost_ret (v := entryVal none) (by simp [results, Try.results52, go_sem, entryVal, c0, c1, c2]) rfl ⟨rfl, ?_⟩
        have hb : Below w.heap.size w w1 := ((Below.refl _ _).alloc (Nat.le_refl _) _).trans (b1.mono (by simp))
        exact ((hb.setCell (p := ⟨w.heap.size, 0, none⟩) (Nat.le_refl _) _).setCell (p := ⟨w.heap.size, 1, none⟩) (Nat.le_refl _) _).setCell (p := ⟨w.heap.size, 2, none⟩) (Nat.le_refl _) _
end Go.Proofs.Ytekdcjbjjakhcaa

/- What a call that writes into blocks of its caller's own leaves. -/
namespace Go.Proofs.Ytekdcjbjjakhcaa
open Go Go.RowKit

/-- w' is w but for the blocks l, and new ones. -/
structure Touch (w w' : World) (l : List Nat) : Prop where
  os : w'.os = w.os
  tape : w'.tape = w.tape
  output : w'.output = w.output
  size : w.heap.size ≤ w'.heap.size
  block : ∀ k, k < w.heap.size → k ∉ l → w'.heap[k]? = w.heap[k]?

theorem Touch.refl (w : World) (l : List Nat) : Touch w w l := ⟨rfl, rfl, rfl, Nat.le_refl _, fun _ _ _ => rfl⟩

theorem Touch.trans {a b c : World} {l m n : List Nat} (h : Touch a b l) (k : Touch b c m) (hl : ∀ x, x ∈ l → x ∈ n) (hm : ∀ x, x ∈ m → x ∈ n ∨ a.heap.size ≤ x) : Touch a c n :=
  ⟨k.os.trans h.os, k.tape.trans h.tape, k.output.trans h.output, Nat.le_trans h.size k.size, fun i hi hn =>
    (k.block i (Nat.lt_of_lt_of_le hi h.size) (fun e => (hm i e).elim hn (fun h' => absurd hi (by omega)))).trans (h.block i hi (fun e => hn (hl i e)))⟩

theorem Touch.same {a b c : World} {l : List Nat} (h : Touch a b l) (k : Touch b c l) : Touch a c l := h.trans k (fun _ h => h) (fun _ h => .inl h)

theorem Touch.mono {a b : World} {l m : List Nat} (h : Touch a b l) (hl : ∀ x, x ∈ l → x ∈ m) : Touch a b m :=
  ⟨h.os, h.tape, h.output, h.size, fun i hi hn => h.block i hi (fun e => hn (hl i e))⟩

theorem Touch.of_below {w w' : World} (h : Below w.heap.size w w') (l : List Nat) : Touch w w' l := ⟨h.os, h.tape, h.output, h.size, fun i hi _ => h.block i hi⟩

theorem Touch.of_grown {w w' : World} {b : Nat} (h : w.grownBy w' (some b)) : Touch w w' [b] := ⟨h.os, h.tape, h.output, h.size, fun i hi hn => h.block i hi (fun e => hn (by cases e; simp))⟩

theorem Touch.alloc {w w' : World} {l : List Nat} (h : Touch w w' l) (o : Obj) : Touch w (w'.alloc o) l :=
  h.same ⟨rfl, rfl, rfl, by simp, fun k hk _ => Below.heap_alloc _ _ _ hk⟩

theorem Touch.drew {w w' : World} {l : List Nat} (h : Touch w w' l) : Touch w w'.drew l := ⟨h.os, h.tape, h.output, h.size, h.block⟩

theorem Touch.drewN {w w' : World} {l : List Nat} (h : Touch w w' l) (n : Nat) : Touch w (w'.drewN n) l := ⟨h.os, h.tape, h.output, h.size, h.block⟩

theorem Touch.setCell {w w' : World} {l : List Nat} (h : Touch w w' l) {p : Addr} (hp : p.block ∈ l ∨ w.heap.size ≤ p.block) (u : Value) : Touch w (w'.setCell p u) l :=
  ⟨h.os, h.tape, h.output, Nat.le_trans h.size (by simp [World.setCell]), fun k hk hn => by
    have hne : k ≠ p.block := by
      rcases hp with hp | hp
      · intro e; exact hn (e ▸ hp)
      · omega
    exact (Below.heap_setCell _ _ _ _ hne).trans (h.block k hk hn)⟩

/-- Below a number under which no block is touched, all is as it was. -/
theorem Touch.below {w w' : World} {l : List Nat} {B : Nat} (h : Touch w w' l) (hB : B ≤ w.heap.size) (hl : ∀ x, x ∈ l → B ≤ x) : Below B w w' :=
  ⟨h.os, h.tape, h.output, h.size, fun k hk => h.block k (by omega) (fun e => by have := hl k e; omega)⟩

/-- A block that isn't touched. -/
theorem Touch.keep {w w' : World} {l : List Nat} {g : Nat} {o : Obj} (h : Touch w w' l) (hg : w.heap[g]? = some o) (hn : g ∉ l) : w'.heap[g]? = some o :=
  (h.block g (Array.getElem?_eq_some_iff.1 hg).1 hn).trans hg

theorem Touch.keepMap {H : Type} {P : Program} {k : TypeId} {R : Value → Option (DataW H × List MemPlace)} {b n : Nat} {D : DataW H} {w w' : World} {l : List Nat} (h : Touch w w' l) (hm : w.ownsMap P k R b n D) (hn : b ∉ l) : w'.ownsMap P k R b n D := by
  obtain ⟨es, clock, hb, F, hs, hD⟩ := hm
  exact ⟨es, clock, h.keep hb hn, F, hs, hD⟩

/-- What lies in a block. -/
theorem Touch.reads {w w' : World} {l : List Nat} {size n : Nat} {v : Value} {xs : List Value} (h : Touch w w' l) (hr : Reads w size v n xs) (hn : ∀ g, v.ownBlock = some g → g ∉ l) : Reads w' size v n xs := by
  obtain ⟨hl, a, cap, rfl, h1, h2, h3⟩ := hr
  refine ⟨hl, a, cap, rfl, h1, h2, fun j u hj => ?_⟩
  obtain ⟨b, off, rfl, hlt, hr⟩ := h3 j u hj
  refine ⟨b, off, rfl, Nat.lt_of_lt_of_le hlt h.size, ?_⟩
  have := h.block b hlt (hn b rfl)
  simp only [World.cell?] at hr ⊢
  rw [this]
  exact hr
end Go.Proofs.Ytekdcjbjjakhcaa
