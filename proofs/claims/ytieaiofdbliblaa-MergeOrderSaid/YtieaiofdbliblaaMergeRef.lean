/- sentryref17.All. -/
import Derived.Test.YtieaiofdbliblaaMergeAll
import Derived.Test.YtieaiofdbliblaaRef11PutO
import Derived.Test.YtieaiofdbliblaaStrRises
namespace Go.Proofs.Ytieaiofdbliblaa
open Go Go.RowKit

def SGives17 (w : World) (l : List ByteArray) (e : Ending) (w' : World) : Prop :=
  ∃ v, e = .returned v ∧ w'.ownsRow w.heap.size 9 1 v l.length (scells l) ∧ Below w.heap.size w w'

theorem flat17_take : ∀ (ls : List Row) (k : Nat), (ls.take k).flatten.length ≤ ls.flatten.length
  | [], k => by simp
  | x :: t, 0 => by simp
  | x :: t, k + 1 => by
    have := flat17_take t k
    simp only [List.take_succ_cons, List.flatten_cons, List.length_append]
    omega

theorem flat17_mem : ∀ {ls : List Row} {l : Row}, l ∈ ls → l.length ≤ ls.flatten.length
  | x :: t, l, h => by
    simp only [List.flatten_cons, List.length_append]
    rcases List.mem_cons.1 h with rfl | h
    · omega
    · have := flat17_mem h
      omega

theorem keys17_snoc {ls : List Row} {k : Nat} {l : Row} (h : ls[k]? = some l) : keys17 (ls.take (k + 1)) = l.foldl putK (keys17 (ls.take k)) := by
  rw [List.take_add_one, h]
  simp [keys17]

theorem fold_snoc {l : List ByteArray} {j : Nat} {x : ByteArray} (P : List ByteArray) (h : l[j]? = some x) : (l.take (j + 1)).foldl putK P = putK ((l.take j).foldl putK P) x := by
  rw [List.take_add_one, h]
  simp

def Ref17Rel (w : World) (ls : List Row) (n : Nat) (ov iv : Value) (wr : World) : Prop :=
  ∃ (k : Nat) (a : Option Addr) (cap : Nat), iv = .int .i64 (k : Int) ∧ k ≤ n ∧ ov = .slice a (keys17 (ls.take k)).length cap ∧ wr.ownsRow w.heap.size 9 1 (.slice a (keys17 (ls.take k)).length cap) (keys17 (ls.take k)).length (scells (keys17 (ls.take k))) ∧ Below w.heap.size w wr

def Ref17In (C : Nat) (wo : World) (P l : List ByteArray) (ov jv : Value) (wi : World) : Prop :=
  ∃ (j : Nat) (a : Option Addr) (cap : Nat), jv = .int .i64 (j : Int) ∧ j ≤ l.length ∧ ov = .slice a ((l.take j).foldl putK P).length cap ∧ wi.ownsRow C 9 1 (.slice a ((l.take j).foldl putK P).length cap) ((l.take j).foldl putK P).length (scells ((l.take j).foldl putK P)) ∧ Below wo.heap.size wo wi

set_option maxRecDepth 100000 in
set_option maxHeartbeats 4000000 in
theorem ref17_any (w : World) (v : Value) (n : Nat) (ls : List Row) (h : RRows w v n ls) (ht : ls.flatten.length ≤ 10000) :
    Calls Try.prog 12 #[v] w (SGives17 w (keys17 ls)) := by
  have HE := Lib.hid h
  obtain ⟨a, cap, rfl, hc1, hc2, hll, hx0⟩ := h
  clear hx0
  unfold maxLen at hc2
  have HLL := Lib.hid hll
  clear hll
  go_enter Try.func12, Try.ntmps12
  go_wp2
  go_loopw [3, 10] (fun ov iv wr => Ref17Rel w ls n ov iv wr) (fun _ iv _ => n - (intOf iv).toNat)
  case atStart => exact ⟨0, none, 0, rfl, Nat.zero_le _, rfl, owns_nil _ _ _ _, Below.refl _ _⟩
  case round =>
    obtain ⟨k, oa, ocap, rfl, hk, rfl, hrd0, hb⟩ := hrel
    have hbs := hb.size
    by_cases hlt : k < n
    · have hkI : (k : Int) < n := by omega
      obtain ⟨x, hx⟩ : ∃ x, ls[k]? = some x := ⟨ls[k]'(by rw [HLL.out]; exact hlt), List.getElem?_eq_getElem _⟩
      obtain ⟨_, _, hv, _, _, _, hrow⟩ := HE.out.below hb
      cases hv
      obtain ⟨g, off, sa, scap, rfl, hg, hcell, hrd⟩ := hrow k x hx
      have hsn := keys17_snoc hx
      have hxl := flat17_mem (List.mem_of_getElem? hx)
      have hP := (keys17_ok (ls.take k)).1
      have hPl := (keys17_ok (ls.take k)).2.2
      have hPt := flat17_take ls k
      generalize hPP : keys17 (ls.take k) = P at *
      have hPl2 : P.length ≤ 10000 := by omega
      have HP := Lib.hid hP
      have HSn := Lib.hid hsn
      have HR := Lib.hid hrd
      have HO := Lib.hid hrd0
      have HB := Lib.hid hb
      obtain ⟨_, _, hv2, hs1, hs2⟩ := hrd.le
      cases hv2
      unfold maxLen at hs2
      clear hrow hx hsn hrd hrd0 hb hP hPP hPl hPt
      obtain ⟨wo, rfl⟩ : ∃ wo : World, wo = wr := ⟨_, rfl⟩
      go_wp2
      go_loopw [3, 16] (fun ov jv wi => Ref17In w.heap.size wo P x ov jv wi) (fun _ jv _ => x.length - (intOf jv).toNat)
      case atStart => exact ⟨0, oa, ocap, rfl, Nat.zero_le _, rfl, HO.out, Below.refl _ _⟩
      case round =>
        obtain ⟨j, ia, icap, rfl, hj, rfl, hir, hbi⟩ := hrel
        have hbis := hbi.size
        have hil := (putsAll_ok (x.take j) P HP.out).2.2
        rw [List.length_take] at hil
        have HO2 := Lib.hid hir
        have HI := Lib.hid hbi
        clear hir hbi
        by_cases hjl : j < x.length
        · have hjI : (j : Int) < x.length := by omega
          obtain ⟨b, off2, y, rfl, hy, hbb, hcc⟩ := (HR.out.below' HI.out).scell j hjl
          have hnext := fold_snoc P hy
          generalize (x.take j).foldl putK P = R at *
          have HN := Lib.hid hnext
          have hpk := puto_any wr w.heap.size _ _ _ R y HO2.out (by omega) (by omega)
          have HPk := Lib.hid hpk
          clear hnext hy hpk
          go_wp2_with (go_at_call 16; go_must (refine HPk.out.mono ?_))
          rintro e w2 ⟨v2, b2, rfl, r2, bb2⟩
          obtain ⟨a2, cap2, rfl, _, _⟩ := (ownsRow.reads r2).le
          have HB2 := Lib.hid (HI.out.trans (bb2.mono HI.out.size))
          have HR2 := Lib.hid r2
          clear r2 bb2 HPk
          go_wp2
          refine ⟨⟨j + 1, a2, cap2, by go_num, by omega, ?_, ?_, HB2.out⟩, by simp [intOf]; omega⟩
          · rw [HN.out]
          · rw [HN.out]; exact HR2.out
        · have hjI : ¬ (j : Int) < x.length := by omega
          have htk : x.take j = x := List.take_of_length_le (by omega)
          rw [htk] at HO2 ⊢
          have HBx := Lib.hid (HB.out.trans (HI.out.mono HB.out.size))
          clear hil
          go_wp2
          refine ⟨⟨k + 1, ia, icap, by go_num, by omega, ?_, ?_, HBx.out⟩, by simp [intOf]; omega⟩
          · rw [HSn.out]
          · rw [HSn.out]; exact HO2.out
    · obtain rfl : k = n := by omega
      have hkI : ¬ (k : Int) < k := by omega
      have htk : ls.take k = ls := by rw [← HLL.out]; exact List.take_length
      rw [htk] at hrd0 ⊢
      have HO := Lib.hid hrd0
      have HB := Lib.hid hb
      clear hrd0 hb
      go_wp2
      go_ret
      exact ⟨_, rfl, HO.out, HB.out⟩
end Go.Proofs.Ytieaiofdbliblaa
