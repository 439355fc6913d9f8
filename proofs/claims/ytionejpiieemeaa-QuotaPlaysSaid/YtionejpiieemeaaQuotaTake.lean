import Derived.Test.YtionejpiieemeaaQuotaAt
namespace Go.Proofs.Ytionejpiieemeaa
open Go Go.RowKit

set_option maxRecDepth 100000 in
set_option maxHeartbeats 1000000 in
theorem left_walk (w : World) (b m n now : Nat) (S : QS) (c : ByteArray) (hq : QAt w b m S n) (hok : S.ok) (hc : c.size ≤ maxLen) (hn : now ≤ 18446744073709551615) :
    Calls Try.prog 11 #[.pointer (some ⟨b, 0, none⟩), .string c, .int .u64 (now : Int)] w
      (GivesQ w b m (S.tick now) n [b] (.int .u64 ((S.tick now).has c : Int))) := by
  have hat := at_any w b m n now S c hq hok hc hn
  generalize (S.tick now).has c = x at *
  generalize (S.tick now).last = L at *
  generalize S.tick now = T at *
  have HA := Lib.hid hat
  have hf := field0
  clear hat hq hok hc hn
  go_enter Try.func11, Try.ntmps11
  go_wp2_with (go_at_call 16; go_must (refine HA.out.mono ?_))
  rintro e w1 ⟨rfl, q1, t1⟩
  have Q1 := Lib.hid q1
  have T1 := Lib.hid t1
  clear q1 t1
  go_wp2
  go_ret
  exact ⟨rfl, Q1.out, T1.out⟩

theorem gives_eq (S : QS) (c : ByteArray) (k now : Nat) : S.gives c k now = decide (k ≤ (S.tick now).has c) := rfl

set_option maxRecDepth 100000 in
set_option maxHeartbeats 1000000 in
theorem take_walk (w : World) (b m n k now : Nat) (S : QS) (c : ByteArray) (hq : QAt w b m S n) (hok : S.ok) (hc : c.size ≤ maxLen) (hk : k ≤ 18446744073709551615) (hn : now ≤ 18446744073709551615) (hroom : n < maxLen) :
    Calls Try.prog 13 #[.pointer (some ⟨b, 0, none⟩), .string c, .int .u64 (k : Int), .int .u64 (now : Int)] w
      (GivesQ w b m (S.take c k now) (n + 1) [b, m] (.bool (S.gives c k now))) := by
  have hat := at_any w b m n now S c hq hok hc hn
  have hle := (S.tick now).has_le c
  have hok1 := S.tick_ok hok hn
  have hmost : (S.tick now).most ≤ 4294967296 := hok1.2.1
  have hL : (S.tick now).last ≤ 18446744073709551615 := hok1.2.2.1
  have htk : S.take c k now = (S.tick now).set c ((S.tick now).left c k) := rfl
  have hlf : (S.tick now).left c k = if k ≤ (S.tick now).has c then (S.tick now).has c - k else (S.tick now).has c := rfl
  rw [gives_eq, htk, hlf]
  have hset : ∀ y, (S.tick now).set c y = { S.tick now with g := fun x => if x = c then some (y, (S.tick now).last) else (S.tick now).g x } := fun _ => rfl
  generalize (S.tick now).has c = x at *
  have hx : x ≤ 4294967296 := by omega
  have hkey : keyOf Try.prog 9 (.string c) = some (.string c.data.toList) := WideMaps.keyOf_string_mk Try.underlying9 hc
  have HA := Lib.hid hat
  have HS := Lib.hid hset
  clear hat hq hok hc hn hle hok1 hmost htk hlf hset
  generalize hL : (S.tick now).last = L at *
  have HLa := Lib.hid hL
  clear hL
  generalize hT : S.tick now = T at *
  clear hT
  by_cases hkx : k ≤ x
  · rw [decide_eq_true hkx, if_pos hkx]
    have e1 : IntKind.u64.wrap ((x : Int) - (k : Int)) = ((x - k : Nat) : Int) := by
      rw [IntWalk.u64_in _ (by omega)]; omega
    go_enter Try.func13, Try.ntmps13
    go_wp2_with (go_at_call 16; go_must (refine HA.out.mono ?_))
    rintro e w1 ⟨rfl, q1, t1⟩
    have Q1 := Lib.hid q1
    have T1 := Lib.hid t1
    clear q1 t1
    go_wp2
    generalize hy : x - k = y at *
    clear hy e1
    have q2 := Q1.out.touch ((Touch.refl w1 []).alloc (.cells #[.int .u64 (y : Int), .int .u64 (L : Int)] 49)) (by simp) (by simp)
    have t2 := T1.out.alloc (.cells #[.int .u64 (y : Int), .int .u64 (L : Int)] 49)
    have p2 := heap_alloc_new w1 (.cells #[.int .u64 (y : Int), .int .u64 (L : Int)] 49)
    have hlt : b < (w1.alloc (.cells #[.int .u64 (y : Int), .int .u64 (L : Int)] 49)).heap.size := q2.lt.1
    have hne1 : w1.heap.size ≠ b := by have := Q1.out.lt.1; omega
    generalize w1.alloc (.cells #[.int .u64 (y : Int), .int .u64 (L : Int)] 49) = w2 at *
    obtain ⟨hb2, hmb, D, hown, hlook⟩ := q2
    have d3 := Lib.cell_of_heap hb2 3
    have y0 := Lib.cell_of_heap p2 0
    have y1 := Lib.cell_of_heap p2 1
    simp at d3 y0 y1
    have HB2 := Lib.hid hb2
    have HLk := Lib.hid hlook
    have T2 := Lib.hid t2
    have HO := Lib.hid hown
    clear hb2 hlook t2 p2 T1 Q1 hown
    go_still_tail 6, (by kernel_rfl)
    show wpList _ _ _ _ _ w2.drew
    go_wp2_with (at_mapUpdate; refine wpList_mapUpdate_own _ rfl _ _ _ 45 rfl 9 49 (Maps.string_keyed Try.underlying9) mapU purseR m n D rfl HO.out.drew hroom _ _ _ rfl rfl hkey (purseD (y, L)) [] rfl ?_; intro w3 hown3 hgrow3)
    have t3 : Touch w2 w3 [m] := (Touch.refl w2 [m]).drew.same (Touch.of_grown hgrow3)
    have hb3 := t3.keep HB2.out (by simp; omega)
    have hl3 := HLk.out.put (HO.out.isMap) c (y, L)
    have qf : QAt w3 b m (T.set c y) (n + 1) := ⟨hb3, hmb, _, hown3, by rw [HS.out]; exact hl3⟩
    have tf : Touch w w3 [b, m] := T2.out.trans t3 (by simp) (by simp)
    have Qf := Lib.hid qf
    have Tf := Lib.hid tf
    clear t3 hb3 hl3 qf tf hown3 hgrow3 HO HLk HB2 T2 d3 y0 y1
    go_wp2
    go_ret
    exact ⟨rfl, Qf.out, Tf.out⟩
  · rw [decide_eq_false hkx, if_neg hkx]
    have hxk : x < k := by omega
    clear hkx
    go_enter Try.func13, Try.ntmps13
    go_wp2_with (go_at_call 16; go_must (refine HA.out.mono ?_))
    rintro e w1 ⟨rfl, q1, t1⟩
    have Q1 := Lib.hid q1
    have T1 := Lib.hid t1
    clear q1 t1
    go_wp2
    have q2 := Q1.out.touch ((Touch.refl w1 []).alloc (.cells #[.int .u64 (x : Int), .int .u64 (L : Int)] 49)) (by simp) (by simp)
    have t2 := T1.out.alloc (.cells #[.int .u64 (x : Int), .int .u64 (L : Int)] 49)
    have p2 := heap_alloc_new w1 (.cells #[.int .u64 (x : Int), .int .u64 (L : Int)] 49)
    have hlt : b < (w1.alloc (.cells #[.int .u64 (x : Int), .int .u64 (L : Int)] 49)).heap.size := q2.lt.1
    have hne1 : w1.heap.size ≠ b := by have := Q1.out.lt.1; omega
    generalize w1.alloc (.cells #[.int .u64 (x : Int), .int .u64 (L : Int)] 49) = w2 at *
    obtain ⟨hb2, hmb, D, hown, hlook⟩ := q2
    have d3 := Lib.cell_of_heap hb2 3
    have y0 := Lib.cell_of_heap p2 0
    have y1 := Lib.cell_of_heap p2 1
    simp at d3 y0 y1
    have HB2 := Lib.hid hb2
    have HLk := Lib.hid hlook
    have T2 := Lib.hid t2
    have HO := Lib.hid hown
    clear hb2 hlook t2 p2 T1 Q1 hown
    go_still_tail 6, (by kernel_rfl)
    show wpList _ _ _ _ _ w2.drew
    go_wp2_with (at_mapUpdate; refine wpList_mapUpdate_own _ rfl _ _ _ 45 rfl 9 49 (Maps.string_keyed Try.underlying9) mapU purseR m n D rfl HO.out.drew hroom _ _ _ rfl rfl hkey (purseD (x, L)) [] rfl ?_; intro w3 hown3 hgrow3)
    have t3 : Touch w2 w3 [m] := (Touch.refl w2 [m]).drew.same (Touch.of_grown hgrow3)
    have hb3 := t3.keep HB2.out (by simp; omega)
    have hl3 := HLk.out.put (HO.out.isMap) c (x, L)
    have qf : QAt w3 b m (T.set c x) (n + 1) := ⟨hb3, hmb, _, hown3, by rw [HS.out]; exact hl3⟩
    have tf : Touch w w3 [b, m] := T2.out.trans t3 (by simp) (by simp)
    have Qf := Lib.hid qf
    have Tf := Lib.hid tf
    clear t3 hb3 hl3 qf tf hown3 hgrow3 HO HLk HB2 T2 d3 y0 y1
    go_wp2
    go_ret
    exact ⟨rfl, Qf.out, Tf.out⟩
end Go.Proofs.Ytionejpiieemeaa
