/- (*merge.Merger).Left, Next. -/
import Derived.Test.YtieaiofdbliblaaMergeNextM
import Derived.Deep.LoopGhost
import Derived.StillTailTactics
namespace Go.Proofs.Ytieaiofdbliblaa
open Go Go.RowKit

variable {G : Nat → Prop}

theorem left_any (w : World) (B m : Nat) (hv : Value) (svs : List Value) (rs : List Row) (h : MS G w B m hv svs rs) :
    Calls Try.prog 14 #[.pointer (some ⟨m, 0, none⟩)] w fun e w' => e = .returned (.int .i64 (rs.length : Int)) ∧ w = w' := by
  have hc := h.mcell
  have hml := (Array.getElem?_eq_some_iff.1 h.cell).1
  obtain ⟨a, cap, rfl, _, _⟩ := (ownsRow.reads h.own).le
  clear h
  go_enter Try.func14, Try.ntmps14
  go_wp2
  go_ret
  exact ⟨rfl, rfl⟩

theorem StrAt.tail {w : World} {b o n cap : Nat} {k : ByteArray} {t : Row} (hn : (k :: t).length = n) (hr : Reads w 1 (.slice (some ⟨b, o, none⟩) n cap) n (scells (k :: t))) (ho : ∀ g, (Value.slice (some ⟨b, o, none⟩) n cap).ownBlock = some g → G g ∧ ∃ cs fz, w.heap[g]? = some (Obj.cells cs 9 fz)) : StrAt G w (.slice (some ⟨b, o + 1, none⟩) (n - 1) (cap - 1)) t := by
  have ht : n - 1 = t.length := by simp at hn; omega
  obtain ⟨hl, a', cap', hv, h1, h2, h3⟩ := hr
  cases hv
  refine ⟨some ⟨b, o + 1, none⟩, cap - 1, by rw [ht], ⟨by simp [scells], _, _, rfl, by omega, by omega, fun j u hj => ?_⟩, fun g hg => ho g hg⟩
  obtain ⟨b', o', ha, hb, hc⟩ := h3 (j + 1) u (by unfold scells at hj ⊢; rw [List.map_cons, List.getElem?_cons_succ]; exact hj)
  cases ha
  exact ⟨b, o + 1, rfl, hb, by rw [show o + 1 + j = o + (j + 1) by omega]; exact hc⟩

def MPost (G : Nat → Prop) (w : World) (B m : Nat) (P : List Row → Prop) (w' : World) : Prop := ∃ (rs' : List Row) (hv : Value) (svs : List Value), P rs' ∧ MS G w' B m hv svs rs' ∧ MF B w w'

def NextPost (G : Nat → Prop) (w : World) (B m : Nat) (rs : List Row) (e : Ending) (w' : World) : Prop :=
  (rs = [] ∧ e = .returned (.tuple #[.string ⟨#[]⟩, .bool false]) ∧ w' = w) ∨ (0 < rs.length ∧ e = .returned (.tuple #[.string (hd rs 0), .bool true]) ∧ MPost G w B m (fun rs' => Told17 rs rs' (hd rs 0)) w')

set_option maxRecDepth 100000 in
set_option maxHeartbeats 4000000 in
theorem next_any (w : World) (B m : Nat) (hv : Value) (svs : List Value) (rs : List Row) (h : MS G w B m hv svs rs) (hm : MI rs) (hfew : rs.length ≤ 10000) :
    Calls Try.prog 15 #[.pointer (some ⟨m, 0, none⟩)] w (NextPost G w B m rs) := by
  have HS := Lib.hid h
  have HM := Lib.hid hm
  have HLf := Lib.hid (left_any w B m hv svs rs h)
  clear h hm
  go_enter Try.func15, Try.ntmps15
  go_wp2_with (go_at_call 14; go_must (refine HLf.out.mono ?_))
  rintro e w1 ⟨rfl, rfl⟩
  by_cases hn : rs.length = 0
  · obtain rfl : rs = [] := List.length_eq_zero_iff.1 hn
    clear hn
    go_wp2
    refine bodyPost_ret (v := .tuple #[.string ⟨#[]⟩, .bool false]) (by simp [results, Try.results15, go_sem]) rfl ?_
    exact .inl ⟨rfl, rfl, rfl⟩
  · have hnI : ¬ (rs.length : Int) = 0 := by omega
    have hnB : ((rs.length : Int) == 0) = false := by simpa using hn
    obtain ⟨g, cap, ⟨ab, ao⟩, len, scap, rfl, hgl, s1, c1, l1, l1', bl1, d1, fz⟩ := HS.out.get (show 0 < rs.length by omega)
    have hm0 := HS.out.mcell
    have hml := (Array.getElem?_eq_some_iff.1 HS.out.cell).1
    have hpos : (0 : Int) < rs.length := by omega
    have hlen0 : (0 : Int) < len := by omega
    have HMd := Lib.hid (show Mid17 rs rs (hd rs 0) rs.flatten.length from ⟨HM.out, fun _ _ => Iff.rfl, fun x hx => HM.out.root hx, Nat.le_refl _, Nat.le_refl _⟩)
    generalize hkE : hd rs 0 = key at *
    have HKe := Lib.hid hkE
    clear hkE
    clear s1 l1 l1'
    go_wp2
    clear hm0 hml c1 bl1 d1 fz hgl hlen0
    go_loopg [] (rs.flatten.length) (fun gk wr => MPost G w B m (fun rs' => Mid17 rs rs' key gk) wr)
    case atStart => exact ⟨rs, _, _, HMd.out, HS.out, MF.refl _ _⟩
    case round =>
      obtain ⟨rs', hv', svs', hmid, hms, hmf⟩ := hrel
      have hless := hmid.less
      by_cases hn' : rs'.length = 0
      · obtain rfl : rs' = [] := List.length_eq_zero_iff.1 hn'
        have hmc := hms.mcell
        have hmll := (Array.getElem?_eq_some_iff.1 hms.cell).1
        obtain ⟨ha, hcap, rfl, _, _⟩ := (ownsRow.reads hms.own).le
        have HD := Lib.hid (hmid.done (.inl rfl))
        have HM2 := Lib.hid hms
        have HF2 := Lib.hid hmf
        clear hmid hms hmf hn' hless
        go_wp2
        refine bodyPost_ret (v := .tuple #[.string key, .bool true]) (by simp [results, Try.results15, go_sem]) rfl ?_
        exact .inr ⟨by omega, by rw [HKe.out], [], _, svs', by rw [HKe.out]; exact HD.out, HM2.out, HF2.out⟩
      · have hposI : (0 : Int) < rs'.length := by omega
        obtain ⟨gg, gcap, ⟨xb, xo⟩, xlen, xscap, rfl, hgl, s1, c1, l1, l1', bl1, d1, fz⟩ := hms.get (show 0 < rs'.length by omega)
        have hmc := hms.mcell
        have hmll := (Array.getElem?_eq_some_iff.1 hms.cell).1
        have hxI : (0 : Int) < xlen := by omega
        have e3 := str_eq (hd rs' 0) key
        by_cases hk : hd rs' 0 = key
        · rw [decide_eq_true hk] at e3
          obtain ⟨t, ht⟩ := hmid.mi.head_mem (show 0 < rs'.length by omega)
          rw [hk] at ht
          have hfew' := hms.few
          have HPop := Lib.hid (hpop_any wr B m _ svs' rs' hms (by omega) hmid.mi.heap)
          have HMid := Lib.hid hmid
          have HT := Lib.hid ht
          have HF := Lib.hid hmf
          have HB := Lib.hid hms.bsize
          clear hmid hms hmf ht s1 hk fz
          go_wp2_with (go_at_call 19; go_must (refine HPop.out.mono ?_))
          rintro e w2 ⟨v, l, rs2, rfl, hl0, hst, hperm, hheap, ⟨hv2, svs2, hms2⟩, mf2⟩
          rw [HT.out] at hl0
          cases hl0
          have hln : (key :: t).length = t.length + 1 := rfl
          obtain ⟨va, vcap, rfl, hvr, hvo⟩ := hst
          have hta := assert_row va (key :: t).length vcap w2
          obtain ⟨vb, vo, _, hva, _, _, _⟩ := hvr.scell 0 (by simp)
          subst hva
          obtain ⟨_, _, hvv, hvc, hvm⟩ := hvr.le
          cases hvv
          unfold maxLen at hvm
          obtain ⟨gp, rfl⟩ : ∃ gp, gk = gp + 1 := by
            have h1 := HMid.out.tot
            have h2 := hperm.flatten.length_eq
            simp at h2
            simp at h1
            exact ⟨gk - 1, by omega⟩
          have hpl := hperm.length_eq
          simp at hpl
          generalize hnn : (key :: t).length = n at *
          have HNN := Lib.hid hnn
          have HVr := Lib.hid hvr
          have HVo := Lib.hid hvo
          have HPm := Lib.hid hperm
          have HHp := Lib.hid hheap
          have HM2 := Lib.hid hms2
          have HF2 := Lib.hid (HF.out.trans mf2)
          clear hvr hvo hperm hheap hms2 mf2 hnn HPop hmc hmll c1 d1 bl1 hgl
          by_cases htn : t = []
          · have hn1 : ¬ (1 : Int) < n := by
              have := HNN.out
              rw [htn] at this
              simp at this
              omega
            have HStep := Lib.hid (HMid.out.step HPm.out (rs3 := rs2) (by rw [if_pos htn]) HHp.out)
            clear hln htn
            go_wp2
            go_roundg gp
            case measure => omega
            case rel => exact ⟨rs2, hv2, svs2, HStep.out, HM2.out, HF2.out⟩
          · have hn1 : (1 : Int) < n := by
              have := HNN.out
              have h2 := List.length_pos_iff.2 htn
              simp at this
              omega
            have hcap1 : ¬ vcap = 1 := by omega
            have hcapI : (1 : Int) ≤ vcap := by omega
            have hnI2 : (1 : Int) ≤ n := by omega
            have hst := StrAt.tail HNN.out HVr.out HVo.out
            have bd : Below w2.heap.size w2 w2.drew := below_quiet (Below.refl _ _) 1
            have HM3 := Lib.hid (HM2.out.below bd)
            have HF3 := Lib.hid (HF2.out.trans (MF.of_below bd HM2.out.bsize))
            have hst3 : StrAt G w2.drew (.slice (some ⟨vb, vo + 1, none⟩) (n - 1) (vcap - 1)) t := hst.mf (MF.of_below (B := 0) bd (Nat.zero_le _))
            have HPu := Lib.hid (hpush_any w2.drew B m hv2 svs2 rs2 _ _ _ t HM3.out hst3 htn (by omega) HHp.out)
            have HTn := Lib.hid htn
            clear hst hst3 bd hln htn
            go_wp2
            go_still_tail 7, (by kernel_rfl)
            show wpList _ _ _ _ _ w2.drew
            go_wp2_with (go_at_call 20; go_must (refine HPu.out.mono ?_))
            rintro e w4 ⟨rfl, rs3, hp3, hh3, ⟨hv3, svs3, hms3⟩, mf3⟩
            have HStep := Lib.hid (HMid.out.step HPm.out (rs3 := rs3) (by rw [if_neg HTn.out]; exact hp3) hh3)
            have HM4 := Lib.hid hms3
            have HF4 := Lib.hid (HF3.out.trans mf3)
            clear hp3 hh3 hms3 mf3
            go_wp2
            go_roundg gp
            case measure => omega
            case rel => exact ⟨rs3, hv3, svs3, HStep.out, HM4.out, HF4.out⟩
        · rw [decide_eq_false hk] at e3
          have HD := Lib.hid (hmid.done (.inr hk))
          have HM2 := Lib.hid hms
          have HF2 := Lib.hid hmf
          clear hmid hms hmf s1 hk fz
          go_wp2
          refine bodyPost_ret (v := .tuple #[.string key, .bool true]) (by simp [results, Try.results15, go_sem]) rfl ?_
          exact .inr ⟨by omega, by rw [HKe.out], rs', _, svs', by rw [HKe.out]; exact HD.out, HM2.out, HF2.out⟩
end Go.Proofs.Ytieaiofdbliblaa
