/- The law MergeSteps' walk. -/
import Derived.Test.YtieaiofdbliblaaMergeFix
import Derived.Test.YtieaiofdbliblaaMergeFew
namespace Go.Proofs.Ytieaiofdbliblaa
open Go Go.RowKit

theorem next_less {G : Nat → Prop} {w w' : World} {B m : Nat} {rs : List Row} {K : List ByteArray} {i : Nat} {e : Ending} {hv : Value} {svs : List Value} (h : NextPost G w B m rs e w') (hms : MS G w B m hv svs rs) (hm : MI rs) (hK : rises K) (hD : ∀ x, x ∈ rs.flatten ↔ x ∈ K.drop i) :
    e = .returned (.tuple #[(tell17 K[i]?).1, (tell17 K[i]?).2]) ∧ MF B w w' ∧ ∃ rs' hv' svs', MS G w' B m hv' svs' rs' ∧ MI rs' ∧ (∀ x, x ∈ rs'.flatten ↔ x ∈ K.drop (i + 1)) ∧ rs'.length ≤ rs.length := by
  have hdr : rises (K.drop i) := List.Pairwise.sublist (List.drop_sublist ..) hK
  rcases next_of hm hdr hD with ⟨hr, hd0⟩ | ⟨hpos, t, hd0, hto⟩
  · have hki : K[i]? = none := by
      rw [List.drop_eq_nil_iff] at hd0
      exact List.getElem?_eq_none hd0
    rcases h with ⟨_, he, rfl⟩ | ⟨hp, _⟩
    · refine ⟨by rw [he, hki]; rfl, MF.refl _ _, rs, hv, svs, hms, hm, fun x => ?_, Nat.le_refl _⟩
      rw [hD x, List.drop_eq_nil_iff.2 (show K.length ≤ i + 1 by rw [List.drop_eq_nil_iff] at hd0; omega), hd0]
    · rw [hr] at hp
      simp at hp
  · have hi : i < K.length := by
      have : (K.drop i).length = (hd rs 0 :: t).length := by rw [hd0]
      simp at this
      omega
    rw [List.drop_eq_getElem_cons hi] at hd0
    injection hd0 with hk ht
    rcases h with ⟨hr, _⟩ | ⟨_, he, rs', hv', svs', htold, hms', mf⟩
    · rw [hr] at hpos
      simp at hpos
    · refine ⟨?_, mf, rs', hv', svs', hms', htold.mi, fun x => by rw [ht]; exact hto rs' htold x, htold.less⟩
      rw [he, List.getElem?_eq_getElem hi, hk]
      rfl

theorem MI.none {rs : List Row} (h : MI rs) (hx : ∀ x, ¬ x ∈ rs.flatten) : rs = [] := by
  cases rs with
  | nil => rfl
  | cons l t =>
    exfalso
    have hl := h.full l (by simp)
    cases l with
    | nil => exact hl rfl
    | cons a s => exact hx a (by simp)

def St1Rel (w : World) (ls : List Row) (n : Nat) (fv iv : Value) (wr : World) : Prop :=
  ∃ k : Nat, iv = .int .i64 (k : Int) ∧ k ≤ n ∧ fv = .int .i64 ((some17 (ls.take k)).length : Int) ∧ (some17 (ls.take k)).length ≤ k ∧ (∀ l ∈ ls.take k, rises l) ∧ Below w.heap.size w wr

theorem up17_snoc {ls : List Row} {k : Nat} {x : Row} (h : ls[k]? = some x) (hx : rises x) (ha : ∀ l ∈ ls.take k, rises l) : ∀ l ∈ ls.take (k + 1), rises l := by
  intro l hl
  rw [List.take_add_one, h] at hl
  rcases List.mem_append.1 hl with hl | hl
  · exact ha l hl
  · simp at hl
    subst hl
    exact hx

theorem len17_snoc {ls : List Row} {k : Nat} {x : Row} (h : ls[k]? = some x) : (some17 (ls.take (k + 1))).length = (some17 (ls.take k)).length + if x.length = 0 then 0 else 1 := by
  rw [List.take_add_one, h]
  unfold some17
  rw [List.filter_append, List.length_append]
  cases x with
  | nil => rfl
  | cons a t => rfl

def St2Rel (w1 w2 : World) (B m : Nat) (K : List ByteArray) (v : Value) (iv : Value) (wr : World) : Prop :=
  ∃ (i : Nat) (rs : List Row) (hv : Value) (svs : List Value), iv = .int .i64 (i : Int) ∧ i ≤ K.length ∧ MS noG wr B m hv svs rs ∧ MI rs ∧ (∀ x, x ∈ rs.flatten ↔ x ∈ K.drop i) ∧ rs.length ≤ 10000 ∧ wr.ownsRow w1.heap.size 9 1 v K.length (scells K) ∧ Below B w2 wr

set_option maxRecDepth 100000 in
set_option maxHeartbeats 4000000 in
theorem mergeSteps_walk (w : World) (a : Option Addr) (n cap : Nat) (ls : List Row) (m : Nat) (h : RRows w (.slice a n cap) n ls) (hsz : ∀ l ∈ ls, l.length ≤ 8796093021952) (hm : m < 256) :
    Calls Try.prog 4 #[.slice a n cap, .int .u8 (m : Int)] w (SaysTrue w) := by
  obtain ⟨r, hr⟩ : ∃ r, m % 3 = r := ⟨_, rfl⟩
  have hr3 : r < 3 := by omega
  have hrem : ((m : Int).tmod 3) = (r : Int) := by
    rw [Int.tmod_eq_emod_of_nonneg (by omega)]
    omega
  have HF := Lib.hid (fixed17_any w)
  have HE := Lib.hid h
  have HS := Lib.hid hsz
  obtain ⟨_, _, hv0, hc1, hc2, hll, hx0⟩ := h
  cases hv0
  unfold maxLen at hc2
  have HLL := Lib.hid hll
  clear hr hx0 hsz hll
  go_enter Try.func4, Try.ntmps4
  go_wp2_with (go_at_call 7; go_must (refine HF.out.mono ?_))
  rintro e w1 ⟨rfl, b1⟩
  have HB := Lib.hid b1
  have HFw := Lib.hid (few17_any w1 _ n ls (HE.out.below b1) HS.out)
  clear b1 HF
  go_wp2_with (go_at_call 8; go_must (refine HFw.out.mono ?_))
  rintro e w2 ⟨rfl, b2⟩
  have HB2 := Lib.hid (HB.out.trans (b2.mono HB.out.size))
  clear b2 HFw HB
  cases hfew : few17 ls with
  | false =>
    go_wp2
    go_ret
    exact ⟨rfl, HB2.out⟩
  | true =>
    obtain ⟨hf1, hf2⟩ := few17_low hfew
    have hn30 : n ≤ 30 := by rw [HLL.out] at hf1; exact hf1
    have HF2 := Lib.hid hf2
    clear hfew hf1 hf2
    go_wp2
    go_loopw [5, 24] (fun fv iv wr => St1Rel w2 ls n fv iv wr) (fun _ iv _ => n - (intOf iv).toNat)
    case atStart => exact ⟨0, rfl, Nat.zero_le _, rfl, Nat.zero_le _, fun l hl => by simp at hl, Below.refl _ _⟩
    case round =>
      obtain ⟨k, rfl, hk, rfl, hsk, hup, hb⟩ := hrel
      have hBr := HB2.out.trans (hb.mono HB2.out.size)
      by_cases hlt : k < n
      · have hkI : (k : Int) < n := by omega
        obtain ⟨x, hx⟩ : ∃ x, ls[k]? = some x := ⟨ls[k]'(by rw [HLL.out]; exact hlt), List.getElem?_eq_getElem _⟩
        obtain ⟨_, _, hv, _, _, _, hrow⟩ := HE.out.below hBr
        cases hv
        obtain ⟨g, off, sa, scap, rfl, hg, hcell, hrd⟩ := hrow k x hx
        have hxl := flat17_mem (List.mem_of_getElem? hx)
        have hf2 := HF2.out
        have HSn := Lib.hid (len17_snoc hx)
        have HR := Lib.hid (rises17_any wr sa x.length scap x hrd)
        have HUp := Lib.hid (fun h => up17_snoc hx h hup)
        have HB := Lib.hid hb
        have HBr := Lib.hid hBr
        obtain ⟨_, _, hv2, hsc1, hsc2⟩ := hrd.le
        cases hv2
        unfold maxLen at hsc2
        clear hrow hx hrd hb hup hBr
        generalize (some17 (ls.take k)).length = s at *
        go_wp2_with (go_at_call 9; go_must (refine HR.out.mono ?_))
        rintro e w3 ⟨rfl, b3⟩
        by_cases hri : rises x
        · have HUx := Lib.hid (HUp.out hri)
          have HB3 := Lib.hid (HB.out.trans (b3.mono HB.out.size))
          rw [decide_eq_true hri]
          clear b3 hri HUp HR HB HBr
          by_cases hz : x.length = 0
          · have hzI : ¬ (0 : Int) < (x.length : Int) := by omega
            have HSx := Lib.hid (HSn.out.trans (by rw [if_pos hz]))
            go_wp2
            refine ⟨⟨k + 1, by go_num, by omega, ?_, ?_, HUx.out, HB3.out⟩, by simp [intOf]; omega⟩
            · rw [HSx.out]; go_num
            · rw [HSx.out]; omega
          · have hzI : (0 : Int) < (x.length : Int) := by omega
            have HSx := Lib.hid (HSn.out.trans (by rw [if_neg hz]))
            go_wp2
            refine ⟨⟨k + 1, by go_num, by omega, ?_, ?_, HUx.out, HB3.out⟩, by simp [intOf]; omega⟩
            · rw [HSx.out]; go_num
            · rw [HSx.out]; omega
        · have HB3 := Lib.hid (HBr.out.trans (b3.mono HBr.out.size))
          rw [decide_eq_false hri]
          clear b3 hri HUp HR HB HBr
          go_wp2
          go_ret
          exact ⟨rfl, HB3.out⟩
      · obtain rfl : k = n := by omega
        obtain ⟨wo, rfl⟩ : ∃ wo : World, wo = wr := ⟨_, rfl⟩
        have hkI : ¬ (k : Int) < k := by omega
        have htk : ls.take k = ls := by rw [← HLL.out]; exact List.take_length
        rw [htk] at hup hsk ⊢
        have hf2 := HF2.out
        have HN := Lib.hid (new17_any wo _ k ls (HE.out.below hBr) (by omega) (fun l hl => by have := flat17_mem hl; omega))
        have HUp := Lib.hid hup
        have HBr := Lib.hid hBr
        clear hup hBr hb htk
        generalize hsl : (some17 ls).length = s at *
        have HSl := Lib.hid hsl
        clear hsl
        go_wp2_with (go_at_call 13; go_must (refine HN.out.mono ?_))
        rintro e w3 hp
        rcases hp with ⟨_, mm, hv, svs, rs, rfl, hms, hmi, hperm, hb3⟩ | ⟨hno, _⟩
        case inr => exact absurd HUp.out hno
        obtain ⟨K, hKe⟩ : ∃ K, keys17 ls = K := ⟨_, rfl⟩
        obtain ⟨ku, km, kl⟩ := keys17_ok ls
        rw [hKe] at ku km kl
        have hrs : rs.length = s := hperm.length_eq.trans HSl.out
        have hD : ∀ x, x ∈ rs.flatten ↔ x ∈ K.drop 0 := fun x => by
          rw [hperm.flatten.mem_iff, some17_flat, List.drop_zero, km x]
        have href := ref17_any w3 _ k ls (HE.out.below (HBr.out.trans (hb3.mono HBr.out.size))) (by omega)
        rw [hKe] at href
        have HRf := Lib.hid href
        have HLf := Lib.hid (left_any w3 wo.heap.size mm hv svs rs hms)
        have HMs := Lib.hid hms
        have HMi := Lib.hid hmi
        have HKu := Lib.hid ku
        have HDd := Lib.hid hD
        have HB3 := Lib.hid (HBr.out.trans (hb3.mono HBr.out.size))
        have HSz := Lib.hid hb3.size
        subst hrs
        clear hms hmi hperm hb3 ku km hD href hKe HSl HN HUp
        go_wp2_with (go_at_call 14; go_must (refine HLf.out.mono ?_))
        rintro e w4 ⟨rfl, rfl⟩
        go_wp2_with (go_at_call 12; go_must (refine HRf.out.mono ?_))
        rintro e w4 ⟨v4, rfl, ho4, b4⟩
        obtain ⟨a4, cap4, rfl, ho41, ho42⟩ := (ownsRow.reads ho4).le
        unfold maxLen at ho42
        have hK300 : K.length ≤ 300 := by omega
        have HM4 := Lib.hid (HMs.out.below b4)
        have HO4 := Lib.hid ho4
        have HB4 := Lib.hid (HB3.out.trans (b4.mono HB3.out.size))
        clear b4 ho4 HRf HMs HLf
        go_wp2
        go_loopw [53] (fun iv wr' => St2Rel w3 w4 wo.heap.size mm K (.slice a4 K.length cap4) iv wr') (fun iv _ => K.length - (intOf iv).toNat)
        case atStart => exact ⟨0, rs, hv, svs, rfl, Nat.zero_le _, HM4.out, HMi.out, HDd.out, by omega, HO4.out, Below.refl _ _⟩
        case round =>
          obtain ⟨i, rs2, hv2, svs2, rfl, hiK, hms2, hmi2, hD2, hl2, hown2, hb2⟩ := hrel
          have HM2 := Lib.hid hms2
          have HI2 := Lib.hid hmi2
          have HD2 := Lib.hid hD2
          have HO2 := Lib.hid hown2
          have HB2x := Lib.hid hb2
          have HC := Lib.hid hb2.size
          clear HM4 HMi HDd HO4 hms2 hmi2 hD2 hown2 hb2
          by_cases hlt2 : i < K.length
          · have hltI : (i : Int) < (K.length : Int) := by omega
            obtain ⟨b, off2, x, rfl, hx, hbb, hcc⟩ := (ownsRow.reads HO2.out).scell i hlt2
            have HLf := Lib.hid (left_any wr wo.heap.size mm hv2 svs2 rs2 HM2.out)
            have HNx := Lib.hid (next_any wr wo.heap.size mm hv2 svs2 rs2 HM2.out HI2.out hl2)
            have HX := Lib.hid hx
            clear hx
            go_wp2_with (go_at_call 14; go_must (refine HLf.out.mono ?_))
            rintro e w5 ⟨rfl, rfl⟩
            go_wp2_with (go_at_call 15; go_must (refine HNx.out.mono ?_))
            rintro e w6 hp
            obtain ⟨rfl, mf, rs', hv', svs', hms', hmi', hD', hl'⟩ := next_less hp HM2.out HI2.out HKu.out HD2.out
            have htx : tell17 K[i]? = (.string x, .bool true) := by rw [HX.out]; rfl
            rw [htx]
            have HLf2 := Lib.hid (left_any w6 wo.heap.size mm hv' svs' rs' hms')
            have HR := Lib.hid (show St2Rel w3 w4 wo.heap.size mm K (.slice (some ⟨b, off2, none⟩) K.length cap4) (.int .i64 ((i : Int) + 1)) w6 from ⟨i + 1, rs', hv', svs', by go_num, hlt2, hms', hmi', hD', by omega, own_mf HO2.out mf, HB2x.out.trans mf.below⟩)
            have hgeI : ¬ (rs2.length : Int) < (rs'.length : Int) := by omega
            clear hp mf hms' hmi' hD' htx HLf HNx HX HM2 HI2 HD2 HO2 HB2x
            dsimp only
            go_wp2_with (go_at_call 14; go_must (refine HLf2.out.mono ?_))
            exact ⟨HR.out, by simp [intOf]; omega⟩
          · have hltI : ¬ (i : Int) < (K.length : Int) := by omega
            have hr0 : rs2 = [] := HI2.out.none fun x hx => by
              have := (HD2.out x).1 hx
              rw [List.drop_eq_nil_iff.2 (by omega)] at this
              cases this
            subst hr0
            have HLf := Lib.hid (left_any wr wo.heap.size mm hv2 svs2 [] HM2.out)
            have HNx := Lib.hid (next_any wr wo.heap.size mm hv2 svs2 [] HM2.out HI2.out (by simp))
            have HBz := Lib.hid (HB4.out.trans (HB2x.out.mono (HBr.out.size)))
            clear HM2 HI2 HD2 HO2 HB2x
            go_wp2
            go_loopw [81] (fun iv wx => NilRel wr (1 + r) iv wx) (fun iv _ => 1 + r - (intOf iv).toNat)
            case atStart => exact ⟨0, rfl, Nat.zero_le _, rfl⟩
            case round =>
              obtain ⟨q, rfl, hq, rfl⟩ := hrel
              by_cases hqt : q < 1 + r
              · have hqI : (q : Int) < 1 + (r : Int) := by omega
                go_wp2_with (go_at_call 15; go_must (refine HNx.out.mono ?_))
                rintro e w5 hp
                rcases hp with ⟨_, rfl, rfl⟩ | ⟨hbad, _⟩
                case inr => simp at hbad
                go_wp2_with (go_at_call 14; go_must (refine HLf.out.mono ?_))
                rintro e w5 ⟨rfl, rfl⟩
                go_wp2
                exact ⟨⟨q + 1, by go_num, by omega, rfl⟩, by simp [intOf]; omega⟩
              · have hqI : ¬ (q : Int) < 1 + (r : Int) := by omega
                go_wp2
                go_ret
                exact ⟨rfl, HBz.out⟩
end Go.Proofs.Ytieaiofdbliblaa
