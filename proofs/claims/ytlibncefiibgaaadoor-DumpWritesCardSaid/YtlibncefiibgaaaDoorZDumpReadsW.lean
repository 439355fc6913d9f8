/- The law DumpReads' walk. -/
import Derived.Test.YtlibncefiibgaaaDoorZDumpFixed
import Derived.Test.YtlibncefiibgaaaDoorZDumpRefRead
import Derived.Test.YtlibncefiibgaaaDoorZDumpSame
namespace Go.Proofs.YtlibncefiibgaaaDoor
open Go Go.RowKit

set_option maxRecDepth 100000 in
set_option maxHeartbeats 2000000 in
theorem fixed_any (w : World) (hp : Pow10 w) : Calls Tryd.prog 5 #[] w (SaysTrue w) := by
  have HP := Lib.hid hp
  have h1 := dread_any w zeroB (by decide) hp
  rw [read_zero] at h1
  have H1 := Lib.hid h1
  have HQ := Lib.hid (fun W hp => dread_any W ⟨#[]⟩ (by decide) hp)
  have HW := Lib.hid (fun W hp => write_nil W hp)
  have hzz : (zeroB.toList == zeroB.toList) = true := by simp
  clear hp h1
  go_enter Tryd.func5, Tryd.ntmps5
  go_wp2_with (go_at_call 8; go_must (refine H1.out.mono ?_))
  rintro e w1 ⟨b1, v1, rfl, o1⟩
  obtain ⟨a1, c1, rfl, _, _⟩ := (ownsRow.reads o1).le
  have HB1 := Lib.hid b1
  have H2 := Lib.hid (HQ.out w1 (HP.out.below b1))
  clear b1 o1 H1
  go_wp2_with (go_at_call 8; go_must (refine H2.out.mono ?_))
  rintro e w2 ⟨b2, hm⟩
  rw [show readD 1 [] (ByteArray.mk #[]).data.toList = .error (1, 7) from read_none0] at hm
  obtain rfl := hm
  have HB2 := Lib.hid (HB1.out.trans (b2.mono HB1.out.size))
  have H3 := Lib.hid (HW.out w2 (HP.out.below HB2.out))
  clear b2 H2 HQ HW
  go_wp2_with (go_at_call 7; go_must (refine H3.out.mono ?_))
  rintro e w3 ⟨rfl, b3⟩
  have HB3 := Lib.hid (HB2.out.trans (b3.mono HB2.out.size))
  clear b3 H3
  unfold zeroB
  go_wp2
  go_ret
  exact ⟨rfl, HB3.out⟩

set_option maxRecDepth 100000 in
set_option maxHeartbeats 2000000 in
theorem dumpReads_walk (w : World) (s : ByteArray) (hs : s.size ≤ maxLen) (hp : Pow10 w) : Calls Tryd.prog 4 #[.string s] w (SaysTrue w) := by
  have HF := Lib.hid (fixed_any w hp)
  have HP := Lib.hid hp
  unfold maxLen at hs
  clear hp
  go_enter Tryd.func4, Tryd.ntmps4
  go_wp2_with (go_at_call 5; go_must (refine HF.out.mono ?_))
  rintro e w1 ⟨rfl, b1⟩
  have HB1 := Lib.hid b1
  have HP1 := Lib.hid (HP.out.below b1)
  clear b1 HF HP
  by_cases h3 : s.size ≤ 3000
  case neg =>
    have h3I : (3000 : Int) < s.size := by omega
    go_wp2
    go_ret
    exact ⟨rfl, HB1.out⟩
  have h3I : ¬ (3000 : Int) < s.size := by omega
  have HR := Lib.hid (dread_any w1 s (by omega) HP1.out)
  have HQ := Lib.hid (fun W => refdread_any W s (by omega))
  obtain ⟨r, hr⟩ : ∃ r, readD 1 [] s.data.toList = r := ⟨_, rfl⟩
  rw [hr] at HR HQ
  clear hr
  cases r with
  | ok ts =>
    go_wp2_with (go_at_call 8; go_must (refine HR.out.mono ?_))
    rintro e w2 ⟨b2, v2, rfl, o2⟩
    have HB2 := Lib.hid (HB1.out.trans (b2.mono HB1.out.size))
    have HO2 := Lib.hid (ownsRow.reads o2)
    clear b2 o2 HR
    go_wp2_with (go_at_call 12; go_must (refine (HQ.out w2).mono ?_))
    rintro e w3 ⟨b3, v3, rfl, o3⟩
    have HB3 := Lib.hid (HB2.out.trans (b3.mono HB2.out.size))
    have HO3 := Lib.hid (HO2.out.below' b3)
    have HU3 := Lib.hid (ownsRow.reads o3)
    obtain ⟨a2, c2, rfl, _, _⟩ := HO2.out.le
    obtain ⟨a3, c3, rfl, _, _⟩ := HU3.out.le
    have HS := Lib.hid (sametup_any w3 a2 a3 ts.length c2 c3 ts rfl HO3.out HU3.out)
    clear b3 o3 HQ HO2
    go_wp2_with (go_at_call 10; go_must (refine HS.out.mono ?_))
    rintro e w4 ⟨rfl, b4⟩
    have HB4 := Lib.hid (HB3.out.trans (b4.mono HB3.out.size))
    clear b4
    go_wp2
    go_ret
    exact ⟨rfl, HB4.out⟩
  | error p =>
    obtain ⟨at', x⟩ := p
    go_wp2_with (go_at_call 8; go_must (refine HR.out.mono ?_))
    rintro e w2 ⟨b2, rfl⟩
    have HB2 := Lib.hid (HB1.out.trans (b2.mono HB1.out.size))
    clear b2 HR
    go_wp2_with (go_at_call 12; go_must (refine (HQ.out w2).mono ?_))
    rintro e w3 ⟨b3, rfl⟩
    have HB3 := Lib.hid (HB2.out.trans (b3.mono HB2.out.size))
    have hn : Reads w3 6 (.slice none 0 0) 0 (tcells []) := ⟨rfl, none, 0, rfl, Nat.le_refl _, Nat.zero_le _, fun j u hj => by simp [tcells] at hj⟩
    have HS := Lib.hid (sametup_any w3 none none 0 0 0 [] rfl hn hn)
    have e1 : ((at' : Int) == at') = true := by simp
    have e2 : ((x : Int) == x) = true := by simp
    clear b3 HQ hn
    go_wp2_with (go_at_call 10; go_must (refine HS.out.mono ?_))
    rintro e w4 ⟨rfl, b4⟩
    have HB4 := Lib.hid (HB3.out.trans (b4.mono HB3.out.size))
    clear b4
    go_wp2
    go_ret
    exact ⟨rfl, HB4.out⟩
end Go.Proofs.YtlibncefiibgaaaDoor
