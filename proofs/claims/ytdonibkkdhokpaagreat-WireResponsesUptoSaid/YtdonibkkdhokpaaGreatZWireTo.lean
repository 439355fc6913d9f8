/- The parts of a response that came in, of small bulk (written by gen_wireto.py). -/
import Derived.Test.YtdonibkkdhokpaaGreatZBulk
import Derived.Test.YtdonibkkdhokpaaGreatMga
import Derived.Test.YtdonibkkdhokpaaGreatZWireTm
import Derived.Test.YtdonibkkdhokpaaGreatZWirePr
namespace Go.Proofs.YtdonibkkdhokpaaGreat
open Go Go.RowKit Go.Joins Go.WideShapes Go.ChangeShapes Go.ChangeAt Go.Deep

theorem enc10 {N : Nat} (h : N < 18446744073709551616) : (enc N).length ≤ 10 := enc_length_le 9 N (by omega)
theorem txt10 {s : ByteArray} {b : Nat} (h : s.size + 1 = b) (hb : b ≤ 1048576) : (txt s).length ≤ 10 * b := by
  unfold txt
  have h1 : s.data.toList.length = s.size := Array.length_toList
  have := enc10 (N := s.size) (by omega)
  rw [List.length_append, h1]
  omega
theorem listB10 {α : Type} (f : α → List UInt8) {l : List α} {b n : Nat} (h : (l.map fun x => (f x).length).sum + 10 ≤ 10 * b) (hl : l.length = n) (hn : n < b) (hb : b ≤ 1048576) : (listB f l).length ≤ 10 * b := by
  unfold listB
  have := enc10 (N := l.length) (by omega)
  rw [List.length_append, List.length_flatMap]
  omega
theorem sm10 {s : ByteArray} {b : Nat} (h : s.size + 1 = b) (hb : b ≤ 1048576) : Sm s := by unfold Sm; omega
theorem txts_2 (a b : ByteArray) : (txts [a, b]).length = (txt a).length + (txt b).length := by simp [txts]
theorem txts_1 (a : ByteArray) : (txts [a]).length = (txt a).length := by simp [txts]
theorem txts_three (a b c : ByteArray) : (txts [a, b, c]).length = (txt a).length + (txt b).length + (txt c).length := by simp [txts]; omega

section
variable {H : Type} {enc' : TypeId × Value → H} {w : World} {base : Nat} {spare : Nat → Bool} {held : Bool}

theorem obj_bulk {n : Nat} {c0 c1 : Value} {y : DataW H × List MemPlace} (h : DataW.trod enc' Tryz.prog w base spare held n 30 [c0, c1] = some y) (hB : bulk y.1 ≤ 1048576) : ∃ s0 s1 : ByteArray, c0 = .string s0 ∧ c1 = .string s1 ∧ Sm s0 ∧ Sm s1 ∧ (txt s0).length + (txt s1).length ≤ 10 * bulk y.1 := by
  obtain ⟨ys, hl, hb, hp⟩ := open_parts Tryz.underlying30 h
  obtain ⟨_, y0, e0, h0⟩ := hp 0 9 0 1 rfl (by kernel_rfl)
  obtain ⟨_, y1, e1, h1⟩ := hp 1 9 1 1 rfl (by kernel_rfl)
  have hl : ys.length = 2 := hl
  obtain rfl : ys = [y0, y1] := by
    match ys, hl with
    | [z0, z1], _ =>
      simp at e0 e1
      simp [e0, e1]
  simp only [List.map_cons, List.map_nil, Rows.uptoBulkAll] at hb
  clear e0 e1 hp hl
  simp at h0 h1
  obtain ⟨s0, rfl, b0⟩ := bulk_text h0
  obtain ⟨s1, rfl, b1⟩ := bulk_text h1
  unfold bulk at *
  have t0 := txt10 b0 (by omega)
  have t1 := txt10 b1 (by omega)
  exact ⟨s0, s1, rfl, rfl, sm10 b0 (by omega), sm10 b1 (by omega), by omega⟩

theorem three_bulk {t : TypeId} (ht : Tryz.prog.underlying t = Tryz.prog.underlying 60) {n : Nat} {c0 c1 c2 : Value} {y : DataW H × List MemPlace} (h : DataW.trod enc' Tryz.prog w base spare held n t [c0, c1, c2] = some y) (hB : bulk y.1 ≤ 1048576) : ∃ x : T3, [c0, c1, c2] = x.cells ∧ x.Sm ∧ (t3B x).length ≤ 10 * bulk y.1 := by
  obtain ⟨ys, hl, hb, hp⟩ := open_parts (ht.trans Tryz.underlying60) h
  obtain ⟨_, y0, e0, h0⟩ := hp 0 30 0 2 rfl (by kernel_rfl)
  obtain ⟨_, y1, e1, h1⟩ := hp 1 9 2 1 rfl (by kernel_rfl)
  have hl : ys.length = 2 := hl
  obtain rfl : ys = [y0, y1] := by
    match ys, hl with
    | [z0, z1], _ =>
      simp at e0 e1
      simp [e0, e1]
  simp only [List.map_cons, List.map_nil, Rows.uptoBulkAll] at hb
  clear e0 e1 hp hl
  simp at h0 h1
  unfold bulk at *
  obtain ⟨s0, s1, rfl, rfl, m0, m1, t0⟩ := obj_bulk h0 (by unfold bulk; omega)
  obtain ⟨s2, rfl, b2⟩ := bulk_text h1
  have t2 := txt10 b2 (by unfold bulk; omega)
  refine ⟨⟨s0, s1, s2⟩, rfl, ⟨m0, m1, sm10 b2 (by unfold bulk; omega)⟩, ?_⟩
  unfold bulk at *
  show (txts [s0, s1, s2]).length ≤ _
  rw [txts_three]
  omega

theorem tuple_bulk {n : Nat} {c0 c1 c2 c3 c4 c5 : Value} {y : DataW H × List MemPlace} (h : DataW.trod enc' Tryz.prog w base spare held n 62 [c0, c1, c2, c3, c4, c5] = some y) (hB : bulk y.1 ≤ 1048576) : ∃ x : T6, [c0, c1, c2, c3, c4, c5] = x.cells ∧ x.Sm ∧ (t6B x).length ≤ 10 * bulk y.1 := by
  obtain ⟨ys, hl, hb, hp⟩ := open_parts Tryz.underlying62 h
  obtain ⟨_, y0, e0, h0⟩ := hp 0 30 0 2 rfl (by kernel_rfl)
  obtain ⟨_, y1, e1, h1⟩ := hp 1 9 2 1 rfl (by kernel_rfl)
  obtain ⟨_, y2, e2, h2⟩ := hp 2 60 3 3 rfl (by kernel_rfl)
  have hl : ys.length = 3 := hl
  obtain rfl : ys = [y0, y1, y2] := by
    match ys, hl with
    | [z0, z1, z2], _ =>
      simp at e0 e1 e2
      simp [e0, e1, e2]
  simp only [List.map_cons, List.map_nil, Rows.uptoBulkAll] at hb
  clear e0 e1 e2 hp hl
  simp at h0 h1 h2
  unfold bulk at *
  obtain ⟨s0, s1, rfl, rfl, m0, m1, t0⟩ := obj_bulk h0 (by unfold bulk; omega)
  obtain ⟨s2, rfl, b2⟩ := bulk_text h1
  have t2 := txt10 b2 (by unfold bulk; omega)
  obtain ⟨⟨s3, s4, s5⟩, e3, m3, t3⟩ := three_bulk rfl h2 (by unfold bulk; omega)
  simp [T3.cells] at e3
  obtain ⟨rfl, rfl, rfl⟩ := e3
  unfold bulk at *
  refine ⟨⟨s0, s1, s2, s3, s4, s5⟩, rfl, ⟨m0, m1, sm10 b2 (by omega), m3.1, m3.2.1, m3.2.2⟩, ?_⟩
  have t4 : (t3B ⟨s3, s4, s5⟩).length = (txt s3).length + (txt s4).length + (txt s5).length := txts_three _ _ _
  have t5 : (t6B ⟨s0, s1, s2, s3, s4, s5⟩).length = (txt s0).length + (txt s1).length + (txt s2).length + ((txt s3).length + (txt s4).length + (txt s5).length) := by
    unfold t6B txts T6.list
    simp
    omega
  omega

theorem write_bulk {n : Nat} {c0 c1 c2 c3 c4 c5 c6 : Value} {y : DataW H × List MemPlace} (h : DataW.trod enc' Tryz.prog w base spare held n 65 [c0, c1, c2, c3, c4, c5, c6] = some y) (hB : bulk y.1 ≤ 1048576) : ∃ x : Wri, [c0, c1, c2, c3, c4, c5, c6] = x.cells ∧ x.t.Sm ∧ (wriB x).length ≤ 10 * bulk y.1 := by
  obtain ⟨ys, hl, hb, hp⟩ := open_parts Tryz.underlying65 h
  obtain ⟨_, y0, e0, h0⟩ := hp 0 4 0 1 rfl (by kernel_rfl)
  obtain ⟨_, y1, e1, h1⟩ := hp 1 62 1 6 rfl (by kernel_rfl)
  have hl : ys.length = 2 := hl
  obtain rfl : ys = [y0, y1] := by
    match ys, hl with
    | [z0, z1], _ =>
      simp at e0 e1
      simp [e0, e1]
  simp only [List.map_cons, List.map_nil, Rows.uptoBulkAll] at hb
  clear e0 e1 hp hl
  simp at h0 h1
  unfold bulk at *
  obtain ⟨b, rfl⟩ := one_bool h0
  obtain ⟨x, hx, m1, t1⟩ := tuple_bulk h1 (by unfold bulk; omega)
  have p0 := bulk_pos y0.1
  unfold bulk at *
  rw [hx]
  refine ⟨⟨b, x⟩, rfl, m1, ?_⟩
  have h2 := enc10 (N := bitN b) (by unfold bitN; split <;> decide)
  show (enc (bitN b) ++ t6B x).length ≤ _
  rw [List.length_append]
  omega

theorem event_bulk {n : Nat} {cs : List Value} {y : DataW H × List MemPlace} (hcs : cs.length = 8) (h : DataW.trod enc' Tryz.prog w base spare held n 67 cs = some y) (hB : bulk y.1 ≤ 1048576) : ∃ x : Evt, cs = x.cells ∧ (x.x.t.Sm ∧ x.rev < 18446744073709551616) ∧ (evB x).length ≤ 10 * bulk y.1 := by
  obtain ⟨ys, hl, hb, hp⟩ := open_parts Tryz.underlying67 h
  obtain ⟨_, y0, e0, h0⟩ := hp 0 22 0 1 rfl (by kernel_rfl)
  obtain ⟨_, y1, e1, h1⟩ := hp 1 65 1 7 rfl (by kernel_rfl)
  have hl : ys.length = 2 := hl
  obtain rfl : ys = [y0, y1] := by
    match ys, hl with
    | [z0, z1], _ =>
      simp at e0 e1
      simp [e0, e1]
  simp only [List.map_cons, List.map_nil, Rows.uptoBulkAll] at hb
  clear e0 e1 hp hl
  match cs, hcs with
  | [c0, c1, c2, c3, c4, c5, c6, c7], _ =>
    simp at h0 h1
    unfold bulk at *
    obtain ⟨m, rfl, hm⟩ := one_u64 h0
    obtain ⟨x, hx, m1, t1⟩ := write_bulk h1 (by unfold bulk; omega)
    have p0 := bulk_pos y0.1
    unfold bulk at *
    rw [hx]
    refine ⟨⟨m, x⟩, rfl, ⟨m1, hm⟩, ?_⟩
    have h2 := enc10 hm
    show (enc m ++ wriB x).length ≤ _
    rw [List.length_append]
    omega

theorem trs_reads {α ε : Type} {hd : (Nat → Prop) → World → List Value → α → Prop} {ec : ε → List Value} {s n cap : Nat} {a : Option Addr} {l : List ε} (et : ε → Tr α) (hs : 0 < s) (hec : ∀ e, (ec e).length = s) (h : Reads w s (.slice a n cap) n (l.flatMap ec)) (hat : ∀ e ∈ l, TrAt hd (· < w.heap.size) s w (ec e) (et e)) : TrsAt hd (· < w.heap.size) s w a 0 (l.map et) := by
  refine TrsAt.of_all _ _ fun i p hi => ?_
  rw [List.getElem?_map] at hi
  obtain ⟨e, he, rfl⟩ := Option.map_eq_some_iff.1 hi
  obtain ⟨b, off, rfl, hb, hc⟩ := rows_at ec s hec h he hs
  refine ⟨b, off, ec e, rfl, hb, hb, hec e, fun j u hj => ?_, hat e (List.mem_of_getElem? he)⟩
  rw [Nat.zero_add]
  exact hc j u hj

theorem all_map {α ε : Type} {q : α → Prop} {et : ε → Tr α} {l : List ε} (h : ∀ e ∈ l, (et e).all q) : ∀ p ∈ l.map et, p.all q := fun p hp => by
  obtain ⟨e, he, rfl⟩ := List.mem_map.1 hp
  exact h e he

def QRu (w : World) (e : RuE) : Prop := ruEAt (· < w.heap.size) w e ∧ e.tree.all ruIn ∧ e.tree.all ruSm
def QNo (w : World) (e : NoE) : Prop := noEAt (· < w.heap.size) w e ∧ e.tree.all noIn ∧ e.tree.all noSm
instance : Inhabited RuE := ⟨⟨⟨0, ⟨#[]⟩, ⟨#[]⟩⟩, [], none, 0⟩⟩
instance : Inhabited NoE := ⟨⟨⟨0, ⟨#[]⟩, ⟨#[]⟩, ⟨#[]⟩, []⟩, [], none, 0, none, 0⟩⟩
instance : Inhabited T3 := ⟨⟨⟨#[]⟩, ⟨#[]⟩, ⟨#[]⟩⟩⟩

theorem rule_open : ∀ (N : Nat), N ≤ 1048576 → ∀ (n : Nat) (cs : List Value) (y : DataW H × List MemPlace), bulk y.1 ≤ N → cs.length = 4 → DataW.trod enc' Tryz.prog w base spare held n 71 cs = some y → ∃ e : RuE, cs = e.cells ∧ QRu w e ∧ (e.tree.bytes ruB).length ≤ 10 * bulk y.1
  | 0, _, n, cs, y, hB, _, _ => by have := bulk_pos y.1; omega
  | N + 1, hN, n, cs, y, hB, hcs, h => by
    have ih := rule_open N (by omega)
    obtain ⟨ys, hl, hb, hp⟩ := open_parts Tryz.underlying71 h
    obtain ⟨_, y0, e0, h0⟩ := hp 0 3 0 1 rfl (by kernel_rfl)
    obtain ⟨_, y1, e1, h1⟩ := hp 1 9 1 1 rfl (by kernel_rfl)
    obtain ⟨_, y2, e2, h2⟩ := hp 2 9 2 1 rfl (by kernel_rfl)
    obtain ⟨_, y3, e3, h3⟩ := hp 3 69 3 1 rfl (by kernel_rfl)
    have hl : ys.length = 4 := hl
    obtain rfl : ys = [y0, y1, y2, y3] := by
      match ys, hl with
      | [z0, z1, z2, z3], _ =>
        simp at e0 e1 e2 e3
        simp [e0, e1, e2, e3]
    simp only [List.map_cons, List.map_nil, Rows.uptoBulkAll] at hb
    clear e0 e1 e2 e3 hp hl
    match cs, hcs with
    | [c0, c1, c2, c3], _ =>
      simp at h0 h1 h2 h3
      obtain ⟨m, rfl, hm⟩ := one_i64 Tryz.underlying3 h0
      obtain ⟨s1, rfl, b1⟩ := bulk_text h1
      obtain ⟨s2, rfl, b2⟩ := bulk_text h2
      have p0 := bulk_pos y0.1
      have hlt : bulk y3.1 ≤ N := by unfold bulk at *; omega
      obtain ⟨a, len, cap, l, rfl, hc1, hc2, hln, hq, hr, hsum, hlb⟩ := slice_rows_bulk RuE.cells (QRu w) (fun e => (e.tree.bytes ruB).length) Tryz.underlying69 (by kernel_rfl) (by decide) (fun _ => rfl) (fun n cs y hl ht hb => ih n cs y (by omega) hl ht) h3
      subst hln
      have t1 := txt10 b1 (by unfold bulk at *; omega)
      have t2 := txt10 b2 (by unfold bulk at *; omega)
      have t3 : (listB (Tr.bytes ruB) (l.map RuE.tree)).length ≤ 10 * bulk y3.1 := listB10 _ (by rw [List.map_map]; exact hsum) (by rw [List.length_map]) hlb (by omega)
      have t0 := enc10 (zig_lt hm)
      refine ⟨⟨⟨m, s1, s2⟩, l.map RuE.tree, a, cap⟩, by simp [RuE.cells], ⟨⟨by simpa using hc1, hc2, trs_reads RuE.tree (by decide) (fun _ => rfl) hr fun e he => RuE.at (hq e he).1⟩, ?_, ?_⟩, ?_⟩
      · unfold RuE.tree
        rw [Tr.all_mk]
        exact ⟨hm, all_map fun e he => (hq e he).2.1⟩
      · unfold RuE.tree
        rw [Tr.all_mk]
        exact ⟨⟨hm, sm10 b1 (by unfold bulk at *; omega), sm10 b2 (by unfold bulk at *; omega)⟩, all_map fun e he => (hq e he).2.2⟩
      · unfold RuE.tree
        rw [Tr.bytes_mk, List.length_append]
        have t4 : (ruB ⟨m, s1, s2⟩).length = (enc (zig m)).length + ((txt s1).length + (txt s2).length) := by
          unfold ruB
          rw [List.length_append, txts_2]
        unfold bulk at *
        show (ruB ⟨m, s1, s2⟩).length + (listB (Tr.bytes ruB) (l.map RuE.tree)).length ≤ _
        omega

theorem sub_row {n : Nat} {cs : List Value} {y : DataW H × List MemPlace} (hcs : cs.length = 3) (h : DataW.trod enc' Tryz.prog w base spare held n 60 cs = some y) (hB : bulk y.1 ≤ 1048576) : ∃ x : T3, cs = x.cells ∧ x.Sm ∧ (t3B x).length ≤ 10 * bulk y.1 := by
  match cs, hcs with
  | [c0, c1, c2], _ => exact three_bulk rfl h hB

theorem node_open : ∀ (N : Nat), N ≤ 1048576 → ∀ (n : Nat) (cs : List Value) (y : DataW H × List MemPlace), bulk y.1 ≤ N → cs.length = 6 → DataW.trod enc' Tryz.prog w base spare held n 34 cs = some y → ∃ e : NoE, cs = e.cells ∧ QNo w e ∧ (e.tree.bytes noB).length ≤ 10 * bulk y.1
  | 0, _, n, cs, y, hB, _, _ => by have := bulk_pos y.1; omega
  | N + 1, hN, n, cs, y, hB, hcs, h => by
    have ih := node_open N (by omega)
    obtain ⟨ys, hl, hb, hp⟩ := open_parts Tryz.underlying34 h
    obtain ⟨_, y0, e0, h0⟩ := hp 0 3 0 1 rfl (by kernel_rfl)
    obtain ⟨_, y1, e1, h1⟩ := hp 1 30 1 2 rfl (by kernel_rfl)
    obtain ⟨_, y2, e2, h2⟩ := hp 2 9 3 1 rfl (by kernel_rfl)
    obtain ⟨_, y3, e3, h3⟩ := hp 3 31 4 1 rfl (by kernel_rfl)
    obtain ⟨_, y4, e4, h4⟩ := hp 4 32 5 1 rfl (by kernel_rfl)
    have hl : ys.length = 5 := hl
    obtain rfl : ys = [y0, y1, y2, y3, y4] := by
      match ys, hl with
      | [z0, z1, z2, z3, z4], _ =>
        simp at e0 e1 e2 e3 e4
        simp [e0, e1, e2, e3, e4]
    simp only [List.map_cons, List.map_nil, Rows.uptoBulkAll] at hb
    clear e0 e1 e2 e3 e4 hp hl
    match cs, hcs with
    | [c0, c1, c2, c3, c4, c5], _ =>
      simp at h0 h1 h2 h3 h4
      obtain ⟨m, rfl, hm⟩ := one_i64 Tryz.underlying3 h0
      obtain ⟨o, i, rfl, rfl, mo, mi, t1⟩ := obj_bulk h1 (by unfold bulk at *; omega)
      obtain ⟨s2, rfl, b2⟩ := bulk_text h2
      have p0 := bulk_pos y0.1
      obtain ⟨sa, sn, sc, subs, rfl, hs1, hs2, hsn, hsq, hsr, hssum, hsb⟩ := slice_rows_bulk T3.cells T3.Sm (fun x => (t3B x).length) Tryz.underlying31 (by kernel_rfl) (by decide) (fun _ => rfl) (fun n cs y hl ht hb => sub_row hl ht (by unfold bulk at *; omega)) h3
      subst hsn
      have hlt : bulk y4.1 ≤ N := by unfold bulk at *; omega
      obtain ⟨a, len, cap, l, rfl, hc1, hc2, hln, hq, hr, hsum, hlb⟩ := slice_rows_bulk NoE.cells (QNo w) (fun e => (e.tree.bytes noB).length) Tryz.underlying32 (by kernel_rfl) (by decide) (fun _ => rfl) (fun n cs y hl ht hb => ih n cs y (by omega) hl ht) h4
      subst hln
      have t2 := txt10 b2 (by unfold bulk at *; omega)
      have t3 : (listB t3B subs).length ≤ 10 * bulk y3.1 := listB10 _ hssum rfl hsb (by unfold bulk at *; omega)
      have t4 : (listB (Tr.bytes noB) (l.map NoE.tree)).length ≤ 10 * bulk y4.1 := listB10 _ (by rw [List.map_map]; exact hsum) (by rw [List.length_map]) hlb (by omega)
      have t0 := enc10 (zig_lt hm)
      have hsb2 : subs.length ≤ 1048576 := by unfold bulk at *; omega
      refine ⟨⟨⟨m, o, i, s2, subs⟩, l.map NoE.tree, sa, sc, a, cap⟩, by simp [NoE.cells], ⟨⟨by simpa using hc1, hc2, trs_reads NoE.tree (by decide) (fun _ => rfl) hr fun e he => NoE.at (hq e he).1, Reads.rowsAt hsr⟩, ?_, ?_⟩, ?_⟩
      · unfold NoE.tree
        rw [Tr.all_mk]
        exact ⟨⟨hm, Nat.le_trans hsb2 (by decide)⟩, all_map fun e he => (hq e he).2.1⟩
      · unfold NoE.tree
        rw [Tr.all_mk]
        exact ⟨⟨hm, mo, mi, sm10 b2 (by unfold bulk at *; omega), Nat.lt_of_le_of_lt hsb2 (by decide), hsq⟩, all_map fun e he => (hq e he).2.2⟩
      · unfold NoE.tree
        rw [Tr.bytes_mk, List.length_append]
        have t5 : (noB ⟨m, o, i, s2, subs⟩).length = (enc (zig m)).length + ((txt o).length + (txt i).length) + (txt s2).length + (listB t3B subs).length := by
          unfold noB
          rw [List.length_append, List.length_append, List.length_append, txts_2, txts_1]
        unfold bulk at *
        show (noB ⟨m, o, i, s2, subs⟩).length + (listB (Tr.bytes noB) (l.map NoE.tree)).length ≤ _
        omega

def QSt (w : World) (e : StE) : Prop := stEAt (· < w.heap.size) w e ∧ stIn e.y ∧ stSm e.y
instance : Inhabited StE := ⟨⟨⟨default, ⟨0, ⟨#[]⟩, ⟨#[]⟩⟩, [], default, []⟩, none, 0, none, 0⟩⟩

theorem int_row {n : Nat} {cs : List Value} {y : DataW H × List MemPlace} (hcs : cs.length = 1) (h : DataW.trod enc' Tryz.prog w base spare held n 3 cs = some y) : ∃ x : Int, cs = [intC x] ∧ in64 x ∧ (intB x).length ≤ 10 * bulk y.1 := by
  match cs, hcs with
  | [c0], _ =>
    obtain ⟨m, rfl, hm⟩ := one_i64 Tryz.underlying3 h
    have := bulk_pos y.1
    have t0 := enc10 (zig_lt hm)
    exact ⟨m, rfl, hm, by show (enc (zig m)).length ≤ _; omega⟩

theorem map_flat1 {α : Type} (f : α → Value) (l : List α) : (l.flatMap fun x => [f x]) = l.map f := by rw [List.map_eq_flatMap]

theorem step_bulk {n : Nat} {cs : List Value} {y : DataW H × List MemPlace} (hcs : cs.length = 11) (h : DataW.trod enc' Tryz.prog w base spare held n 74 cs = some y) (hB : bulk y.1 ≤ 1048576) : ∃ e : StE, cs = e.cells ∧ QSt w e ∧ (stB e.y).length ≤ 10 * bulk y.1 := by
  obtain ⟨ys, hl, hb, hp⟩ := open_parts Tryz.underlying74 h
  obtain ⟨_, y0, e0, h0⟩ := hp 0 68 0 3 rfl (by kernel_rfl)
  obtain ⟨_, y1, e1, h1⟩ := hp 1 71 3 4 rfl (by kernel_rfl)
  obtain ⟨_, y2, e2, h2⟩ := hp 2 60 7 3 rfl (by kernel_rfl)
  obtain ⟨_, y3, e3, h3⟩ := hp 3 72 10 1 rfl (by kernel_rfl)
  have hl : ys.length = 4 := hl
  obtain rfl : ys = [y0, y1, y2, y3] := by
    match ys, hl with
    | [z0, z1, z2, z3], _ =>
      simp at e0 e1 e2 e3
      simp [e0, e1, e2, e3]
  simp only [List.map_cons, List.map_nil, Rows.uptoBulkAll] at hb
  clear e0 e1 e2 e3 hp hl
  match cs, hcs with
  | [c0, c1, c2, c3, c4, c5, c6, c7, c8, c9, c10], _ =>
    simp at h0 h1 h2 h3
    obtain ⟨⟨p1, p2, p3⟩, ep, mp, tp⟩ := three_bulk (by rw [Tryz.underlying68, Tryz.underlying60]) h0 (by unfold bulk at *; omega)
    obtain ⟨⟨⟨k, ra, rb⟩, ps, a, cap⟩, er, ⟨⟨q1, q2, q3⟩, q4, q5⟩, tr⟩ := rule_open 1048576 (Nat.le_refl _) _ _ _ (by unfold bulk at *; omega) rfl h1
    obtain ⟨⟨s1, s2, s3⟩, es, ms, ts⟩ := three_bulk rfl h2 (by unfold bulk at *; omega)
    obtain ⟨ba, bn, bc, ys, rfl, hb1, hb2, hbn, hbq, hbr, hbsum, hbb⟩ := slice_rows_bulk (fun x => [intC x]) in64 (fun x => (intB x).length) Tryz.underlying72 (by kernel_rfl) (by decide) (fun _ => rfl) (fun n cs y hl ht hb => int_row hl ht) h3
    subst hbn
    rw [map_flat1] at hbr
    simp [T3.cells] at ep es
    simp [RuE.cells] at er
    obtain ⟨rfl, rfl, rfl⟩ := ep
    obtain ⟨rfl, rfl, rfl⟩ := es
    obtain ⟨rfl, rfl, rfl, rfl⟩ := er
    have tb : (listB intB ys).length ≤ 10 * bulk y3.1 := listB10 _ hbsum rfl hbb (by unfold bulk at *; omega)
    have hb3 : ys.length ≤ 1048576 := by unfold bulk at *; omega
    refine ⟨⟨⟨⟨p1, p2, p3⟩, ⟨k, ra, rb⟩, ps, ⟨s1, s2, s3⟩, ys⟩, a, cap, ba, bc⟩, rfl, ⟨⟨q1, q2, q3, Reads.rowsAt hbr⟩, ⟨q4, hbq, Nat.le_trans hb3 (by decide)⟩, ⟨mp, q5, ms, Nat.lt_of_le_of_lt hb3 (by decide), hbq⟩⟩, ?_⟩
    show (stB ⟨⟨p1, p2, p3⟩, ⟨k, ra, rb⟩, ps, ⟨s1, s2, s3⟩, ys⟩).length ≤ _
    unfold stB
    simp only [List.length_append]
    have tr2 : ((Tr.mk (⟨k, ra, rb⟩ : RuH) ps).bytes ruB).length ≤ 10 * bulk y1.1 := tr
    unfold bulk at *
    omega

theorem flag_row {n : Nat} {cs : List Value} {y : DataW H × List MemPlace} (hcs : cs.length = 1) (h : DataW.trod enc' Tryz.prog w base spare held n 4 cs = some y) : ∃ x : Bool, cs = [flagC x] ∧ True ∧ (flagB x).length ≤ 10 * bulk y.1 := by
  match cs, hcs with
  | [c0], _ =>
    obtain ⟨m, rfl⟩ := one_bool h
    have := bulk_pos y.1
    have t0 := enc10 (N := bitN m) (by unfold bitN; split <;> decide)
    exact ⟨m, rfl, trivial, by show (enc (bitN m)).length ≤ _; omega⟩
theorem tuple_row {n : Nat} {cs : List Value} {y : DataW H × List MemPlace} (hcs : cs.length = 6) (h : DataW.trod enc' Tryz.prog w base spare held n 62 cs = some y) (hB : bulk y.1 ≤ 1048576) : ∃ x : T6, cs = x.cells ∧ x.Sm ∧ (t6B x).length ≤ 10 * bulk y.1 := by
  match cs, hcs with
  | [c0, c1, c2, c3, c4, c5], _ => exact tuple_bulk h hB
theorem obj_row {n : Nat} {cs : List Value} {y : DataW H × List MemPlace} (hcs : cs.length = 2) (h : DataW.trod enc' Tryz.prog w base spare held n 30 cs = some y) (hB : bulk y.1 ≤ 1048576) : ∃ x : T2, cs = x.cells ∧ x.Sm ∧ (t2B x).length ≤ 10 * bulk y.1 := by
  match cs, hcs with
  | [c0, c1], _ =>
    obtain ⟨s0, s1, rfl, rfl, m0, m1, t⟩ := obj_bulk h hB
    refine ⟨⟨s0, s1⟩, rfl, ⟨m0, m1⟩, ?_⟩
    show (txts [s0, s1]).length ≤ _
    rw [txts_2]
    exact t

theorem sts_reads {n cap : Nat} {a : Option Addr} {l : List StE} (h : Reads w 11 (.slice a n cap) n (l.flatMap StE.cells)) (hc1 : n ≤ cap) (hc2 : cap ≤ maxLen) (hq : ∀ e ∈ l, QSt w e) : StsAt (· < w.heap.size) w (.slice a n cap) n (l.map StE.y) := by
  refine ⟨a, cap, rfl, hc1, hc2, fun i y hi => ?_⟩
  rw [List.getElem?_map] at hi
  obtain ⟨e, he, rfl⟩ := Option.map_eq_some_iff.1 hi
  obtain ⟨b, off, rfl, hb, hc⟩ := rows_at StE.cells 11 (fun _ => rfl) h he (by decide)
  obtain ⟨q1, q2, q3, q4⟩ := (hq e (List.mem_of_getElem? he)).1
  exact ⟨b, off, e.cells, rfl, hb, hb, hc, e.a, e.cap, e.ba, e.bc, rfl, q1, q2, q3, q4⟩

theorem array15 {α : Type} {cs : Array α} (h : cs.size = 15) : ∃ c0 c1 c2 c3 c4 c5 c6 c7 c8 c9 c10 c11 c12 c13 c14, cs = #[c0, c1, c2, c3, c4, c5, c6, c7, c8, c9, c10, c11, c12, c13, c14] := by
  obtain ⟨l⟩ := cs
  match l, h with
  | [c0, c1, c2, c3, c4, c5, c6, c7, c8, c9, c10, c11, c12, c13, c14], _ => exact ⟨c0, c1, c2, c3, c4, c5, c6, c7, c8, c9, c10, c11, c12, c13, c14, rfl⟩

set_option maxRecDepth 100000 in
theorem resp_open {r : Reach} {b0 : Nat} {v : Value} {d : DataW H} {p : List MemPlace} (hv : Value.okWide Tryz.prog w r b0 36 v) (h : DataW.Trod enc' Tryz.prog w base spare held 36 v d p) (hB : bulk d ≤ 1048576) :
    ∃ q a1 a2 a3 a4 a5 sa a c1 c2 c3 c4 c5 sc cap, v = .agg #[.int .u64 (q.id : Int), .int .i64 q.err, .int .u64 (q.rev : Int), .string q.token, .slice a1 q.flags.length c1, .slice a2 q.tuples.length c2, .slice a3 q.objs.length c3, .slice a4 q.events.length c4, .slice a5 q.steps.length c5, .int .i64 q.th.kind, .string q.th.o, .string q.th.i, .string q.th.rel, .slice sa q.th.subs.length sc, .slice a q.tps.length cap] ∧
      RespR (· < w.heap.size) w q a1 a2 a3 a4 a5 sa a c1 c2 c3 c4 c5 sc cap ∧ RespIn q ∧ RespSm q ∧ (respB q).length ≤ 20000000 := by
  have : Inhabited T6 := ⟨⟨⟨#[]⟩, ⟨#[]⟩, ⟨#[]⟩, ⟨#[]⟩, ⟨#[]⟩, ⟨#[]⟩⟩⟩
  have : Inhabited T2 := ⟨⟨⟨#[]⟩, ⟨#[]⟩⟩⟩
  have : Inhabited Evt := ⟨⟨0, ⟨false, default⟩⟩⟩
  have k15 : Tryz.prog.cellsOf 36 = 15 := by kernel_rfl
  obtain ⟨cs, rfl, hsz⟩ := okWide_struct Tryz.underlying36 hv
  obtain ⟨d0, d1, d2, d3, d4, d5, d6, d7, d8, d9, d10, d11, d12, d13, d14, rfl⟩ := array15 (hsz.trans k15)
  obtain ⟨fuel, hf⟩ := h
  have hB2 : bulk (d, p).1 ≤ 1048576 := hB
  obtain ⟨ys, hl, hb, hp⟩ := open_parts Tryz.underlying36 hf
  obtain ⟨_, y0, e0, h0⟩ := hp 0 22 0 1 rfl (by kernel_rfl)
  obtain ⟨_, y1, e1, h1⟩ := hp 1 23 1 1 rfl (by kernel_rfl)
  obtain ⟨_, y2, e2, h2⟩ := hp 2 22 2 1 rfl (by kernel_rfl)
  obtain ⟨_, y3, e3, h3⟩ := hp 3 9 3 1 rfl (by kernel_rfl)
  obtain ⟨_, y4, e4, h4⟩ := hp 4 24 4 1 rfl (by kernel_rfl)
  obtain ⟨_, y5, e5, h5⟩ := hp 5 25 5 1 rfl (by kernel_rfl)
  obtain ⟨_, y6, e6, h6⟩ := hp 6 26 6 1 rfl (by kernel_rfl)
  obtain ⟨_, y7, e7, h7⟩ := hp 7 27 7 1 rfl (by kernel_rfl)
  obtain ⟨_, y8, e8, h8⟩ := hp 8 28 8 1 rfl (by kernel_rfl)
  obtain ⟨_, y9, e9, h9⟩ := hp 9 34 9 6 rfl (by kernel_rfl)
  have hl : ys.length = 10 := hl
  obtain rfl : ys = [y0, y1, y2, y3, y4, y5, y6, y7, y8, y9] := by
    match ys, hl with
    | [z0, z1, z2, z3, z4, z5, z6, z7, z8, z9], _ =>
      simp at e0 e1 e2 e3 e4 e5 e6 e7 e8 e9
      simp [e0, e1, e2, e3, e4, e5, e6, e7, e8, e9]
  simp only [List.map_cons, List.map_nil, Rows.uptoBulkAll] at hb
  clear e0 e1 e2 e3 e4 e5 e6 e7 e8 e9 hp hl
  simp [Value.cells] at h0 h1 h2 h3 h4 h5 h6 h7 h8 h9
  have g0 := bulk_pos y0.1
  have g1 := bulk_pos y1.1
  have g2 := bulk_pos y2.1
  obtain ⟨m0, rfl, b0⟩ := one_u64 h0
  obtain ⟨m1, rfl, b1⟩ := one_i64 Tryz.underlying23 h1
  obtain ⟨m2, rfl, b2⟩ := one_u64 h2
  obtain ⟨s3, rfl, b3⟩ := bulk_text h3
  obtain ⟨a1, n1, c1, x1, rfl, k1, l1, e1, q1, r1, u1, t1⟩ := slice_rows_bulk (fun x => [flagC x]) (fun _ => True) (fun x => (flagB x).length) Tryz.underlying24 (by kernel_rfl) (by decide) (fun _ => rfl) (fun n cs y hl ht hb => flag_row hl ht) h4
  obtain ⟨a2, n2, c2, x2, rfl, k2, l2, e2, q2, r2, u2, t2⟩ := slice_rows_bulk T6.cells T6.Sm (fun x => (t6B x).length) Tryz.underlying25 (by kernel_rfl) (by decide) (fun _ => rfl) (fun n cs y hl ht hb => tuple_row hl ht (by unfold bulk at *; omega)) h5
  obtain ⟨a3, n3, c3, x3, rfl, k3, l3, e3, q3, r3, u3, t3⟩ := slice_rows_bulk T2.cells T2.Sm (fun x => (t2B x).length) Tryz.underlying26 (by kernel_rfl) (by decide) (fun _ => rfl) (fun n cs y hl ht hb => obj_row hl ht (by unfold bulk at *; omega)) h6
  obtain ⟨a4, n4, c4, x4, rfl, k4, l4, e4, q4, r4, u4, t4⟩ := slice_rows_bulk Evt.cells (fun x => x.x.t.Sm ∧ x.rev < 18446744073709551616) (fun x => (evB x).length) Tryz.underlying27 (by kernel_rfl) (by decide) (fun _ => rfl) (fun n cs y hl ht hb => event_bulk hl ht (by unfold bulk at *; omega)) h7
  obtain ⟨a5, n5, c5, x5, rfl, k5, l5, e5, q5, r5, u5, t5⟩ := slice_rows_bulk StE.cells (QSt w) (fun e => (stB e.y).length) Tryz.underlying28 (by kernel_rfl) (by decide) (fun _ => rfl) (fun n cs y hl ht hb => step_bulk hl ht (by unfold bulk at *; omega)) h8
  obtain ⟨⟨nh, ps, sa, sc, a, cap⟩, e9, ⟨⟨v1, v2, v3, v4⟩, v5, v6⟩, u9⟩ := node_open 1048576 (Nat.le_refl _) _ _ _ (by unfold bulk at *; omega) rfl h9
  simp [NoE.cells] at e9
  obtain ⟨rfl, rfl, rfl, rfl, rfl, rfl⟩ := e9
  subst e1
  subst e2
  subst e3
  subst e4
  subst e5
  rw [map_flat1] at r1
  have z3 := txt10 b3 (by unfold bulk at *; omega)
  have z4 : (listB flagB x1).length ≤ 10 * bulk y4.1 := listB10 _ u1 rfl t1 (by unfold bulk at *; omega)
  have z5 : (listB t6B x2).length ≤ 10 * bulk y5.1 := listB10 _ u2 rfl t2 (by unfold bulk at *; omega)
  have z6 : (listB t2B x3).length ≤ 10 * bulk y6.1 := listB10 _ u3 rfl t3 (by unfold bulk at *; omega)
  have z7 : (listB evB x4).length ≤ 10 * bulk y7.1 := listB10 _ u4 rfl t4 (by unfold bulk at *; omega)
  have z8 : (listB stB (x5.map StE.y)).length ≤ 10 * bulk y8.1 := listB10 _ (by rw [List.map_map]; exact u5) (by rw [List.length_map]) t5 (by unfold bulk at *; omega)
  have z9 : ((Tr.mk nh ps).bytes noB).length ≤ 10 * bulk y9.1 := u9
  have z0 := enc10 b0
  have z1 := enc10 (zig_lt b1)
  have z2 := enc10 b2
  refine ⟨⟨m0, m1, m2, s3, x1, x2, x3, x4, x5.map StE.y, nh, ps⟩, a1, a2, a3, a4, a5, sa, a, c1, c2, c3, c4, c5, sc, cap, by simp, ⟨Reads.rowsAt r1, Reads.rowsAt r2, Reads.rowsAt r3, Reads.rowsAt r4, ?_, v4, v1, v2, v3⟩, ?_, ?_, ?_⟩
  · have := sts_reads r5 k5 l5 q5
    simpa using this
  · refine ⟨b0, b1, b2, ?_, ?_, ?_, ?_, ?_, fun x hx => (q4 x hx).2, fun y hy => ?_, v5⟩
    · show x1.length ≤ _
      unfold bulk at *
      omega
    · show x2.length ≤ _
      unfold bulk at *
      omega
    · show x3.length ≤ _
      unfold bulk at *
      omega
    · show x4.length ≤ _
      unfold bulk at *
      omega
    · show (x5.map StE.y).length ≤ _
      rw [List.length_map]
      unfold bulk at *
      omega
    · obtain ⟨e, he, rfl⟩ := List.mem_map.1 hy
      exact (q5 e he).2.1
  · refine ⟨sm10 b3 (by unfold bulk at *; omega), q2, q3, fun x hx => (q4 x hx).1, fun y hy => ?_, v6⟩
    obtain ⟨e, he, rfl⟩ := List.mem_map.1 hy
    exact (q5 e he).2.2
  · unfold respB
    simp only [List.length_append, txts_1, List.length_cons, List.length_nil]
    unfold bulk at *
    omega
end
end Go.Proofs.YtdonibkkdhokpaaGreat
