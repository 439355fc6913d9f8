/- The law DumpWrites' walk, given the reference's set. -/
import Derived.Test.YtlibncefiibgaaaDoorZDumpRefWrite
import Derived.Test.YtlibncefiibgaaaDoorZDumpFew
import Derived.Test.YtlibncefiibgaaaDoorZDumpWrite
import Derived.Test.YtlibncefiibgaaaDoorZDumpReadsW
namespace Go.Proofs.YtlibncefiibgaaaDoor
open Go Go.RowKit

def SetAny : Prop := ∀ (w : World) (a : Option Addr) (n cap : Nat) (l : List Six), l.length = n → Reads w 6 (.slice a n cap) n (tcells l) → (∀ t ∈ l, t.short 100) → n ≤ 60 → Calls Tryd.prog 11 #[.slice a n cap] w (RowPost w (setL l))

set_option maxRecDepth 100000 in
set_option maxHeartbeats 2000000 in
theorem dumpWrites_of (hset : SetAny) (w : World) (a : Option Addr) (n cap : Nat) (l : List Six) (hl : l.length = n) (h : Reads w 6 (.slice a n cap) n (tcells l)) (hp : Pow10 w) : Calls Tryd.prog 3 #[.slice a n cap] w (SaysTrue w) := by
  obtain ⟨j0, hj, hy0, hy1, hy2⟩ := info_parts info_six
  have HF := Lib.hid (fixed_any w hp)
  have HP := Lib.hid hp
  have HR := Lib.hid h
  have HL := Lib.hid hl
  have HS := Lib.hid hset
  clear hp h hl hset
  go_enter Tryd.func3, Tryd.ntmps3
  go_wp2_with (go_at_call 5; go_must (refine HF.out.mono ?_))
  rintro e w1 ⟨rfl, b1⟩
  have HB1 := Lib.hid b1
  have HW := Lib.hid (few36_any w1 a n cap l HL.out (HR.out.below' b1))
  clear b1 HF
  by_cases hfew : (l.all Six.tight36 && decide (n ≤ 60)) = true
  case neg =>
    have hff : (l.all Six.tight36 && decide (n ≤ 60)) = false := by simpa using hfew
    rw [hff] at HW
    go_wp2_with (go_at_call 6; go_must (refine HW.out.mono ?_))
    rintro e w2 ⟨rfl, b2⟩
    have HB2 := Lib.hid (HB1.out.trans (b2.mono HB1.out.size))
    clear b2
    go_wp2
    go_ret
    exact ⟨rfl, HB2.out⟩
  rw [hfew] at HW
  rw [Bool.and_eq_true, decide_eq_true_eq] at hfew
  obtain ⟨hta, hn⟩ := hfew
  have hs : ∀ t ∈ l, t.short 100 := fun t ht => tight36_short (List.all_eq_true.1 hta t ht)
  have hgs : ∀ t ∈ goodL l, t.short 100 := fun t ht => hs t (goodL_mem ht).1
  have hgn : (goodL l).length ≤ 60 := by have := goodL_len l; have := HL.out; omega
  have HWR := Lib.hid (fun W a3 c3 h => write_any W a3 n c3 l HL.out h hs hn)
  have HST := Lib.hid (fun W (hW : Below w.heap.size w W) => HS.out W a n cap l HL.out (HR.out.below' hW) hs hn)
  have HST := Lib.hid (show ∀ W, Below w.heap.size w W → Calls Tryd.prog 11 #[.slice a n cap] W (RowPost W (goodL l)) by rw [good_set]; exact HST.out)
  have HRW := Lib.hid (fun W (hW : Below w.heap.size w W) => refwrite_of W a n cap (goodL l) (HST.out W hW) hgs hgn)
  have hrd := fun W => dread_any W (dumpB (goodL l)) (by have := dump_len (goodL l) hgs hgn; omega)
  rw [show (dumpB (goodL l)).data.toList = dumpL (goodL l) from rfl, read_dump (goodL l) (fun t ht => (goodL_mem ht).2) (goodL_strict l)] at hrd
  have HRD := Lib.hid hrd
  obtain ⟨m, hm⟩ : ∃ m, (goodL l).length = m := ⟨_, rfl⟩
  have HM := Lib.hid hm
  clear hrd hs hgs hgn hta HS hm
  generalize dumpB (goodL l) = D at *
  generalize goodL l = ts at *
  go_wp2_with (go_at_call 6; go_must (refine HW.out.mono ?_))
  rintro e w2 ⟨rfl, b2⟩
  have HB2 := Lib.hid (HB1.out.trans (b2.mono HB1.out.size))
  clear b2 HB1 HW
  have hr2 := HR.out.below' HB2.out
  have hsrc := Reads.src (P := Tryd.prog) (tx := 22) Tryd.underlying22 (hr2.alloc (.cells #[] 37)) (tcells_one l)
  have hb0 : Below w2.heap.size w2 (w2.alloc (.cells #[] 37)) := (Below.refl _ _).alloc (Nat.le_refl _) _
  have hf0 : (w2.alloc (.cells #[] 37)).ownsRow w2.heap.size 37 6 (.slice (some ⟨w2.heap.size, 0, none⟩) 0 0) 0 [] := World.ownsRow_lit w2 #[] 0 (Nat.le_refl _) (Nat.zero_le _) rfl
  clear hr2
  go_wp2_with (at_builtin; go_must (refine wpList_append_owns rfl _ _ 22 22 rfl w2.heap.size 37 j0 _ 6 96 Tryd.underlying22 hj hy0 hy1 hy2 rfl _ _ _ rfl hf0 _ _ _ rfl hsrc ?_ ?_ ?_ ?_))
  · unfold maxLen; omega
  · omega
  · simp
  intro v3 w3 f3 _ b3 _
  have hb3 : Below w2.heap.size w2 w3 := hb0.trans b3
  have HB3 := Lib.hid (HB2.out.trans (hb3.mono HB2.out.size))
  have h9 := f3
  have HR3 := Lib.hid (ownsRow.reads h9)
  obtain ⟨a3, c3, rfl, _, _⟩ := (ownsRow.reads h9).le
  clear hsrc hf0 hb0 b3 f3 hb3 h9 HB2
  go_wp2_with (go_at_call 7; go_must (refine (HWR.out w3 a3 c3 HR3.out (HP.out.below HB3.out)).mono ?_))
  rintro e w4 ⟨rfl, b4⟩
  have HB4 := Lib.hid (HB3.out.trans (b4.mono HB3.out.size))
  have HR4 := Lib.hid (HR3.out.below' b4)
  clear b4 HR3 HB3 HWR
  have HD5 := Lib.hid (HRD.out w4 (HP.out.below HB4.out))
  go_wp2_with (go_at_call 8; go_must (refine HD5.out.mono ?_))
  rintro e w5 ⟨b5, v5, rfl, o5⟩
  rw [HM.out] at o5
  have HB := Lib.hid (HB4.out.trans (b5.mono HB4.out.size))
  have HR3 := Lib.hid (HR4.out.below' b5)
  have HR5 := Lib.hid (ownsRow.reads o5)
  obtain ⟨a5, c5, rfl, _, _⟩ := (ownsRow.reads o5).le
  clear b5 o5 HR4 HB4 HD5 HRD
  have hDD : (D.toList == D.toList) = true := by simp
  go_wp2_with (go_at_call 9; go_must (refine (HRW.out _ HB.out).mono ?_))
  rintro e w6 ⟨rfl, b6⟩
  have HB6 := Lib.hid (HB.out.trans (b6.mono HB.out.size))
  have HR63 := Lib.hid (HR3.out.below' b6)
  have HR65 := Lib.hid (HR5.out.below' b6)
  clear b6 HB HR3 HR5 HRW
  go_wp2_with (go_at_call 11; go_must (refine (HST.out _ HB6.out).mono ?_))
  rintro e w7 ⟨v7, rfl, o7, b7⟩
  rw [HM.out] at o7
  obtain ⟨a7, c7, rfl, _, _⟩ := (ownsRow.reads o7).le
  have HS5 := Lib.hid (sametup_any w7 a5 a7 m c5 c7 ts HM.out (HR65.out.below' b7) (ownsRow.reads o7))
  have HB7 := Lib.hid (HB6.out.trans (b7.mono HB6.out.size))
  have HR73 := Lib.hid (HR63.out.below' b7)
  clear b7 o7 HB6 HR63 HR65 HST
  go_wp2_with (go_at_call 10; go_must (refine HS5.out.mono ?_))
  rintro e w8 ⟨rfl, b8⟩
  have HB8 := Lib.hid (HB7.out.trans (b8.mono HB7.out.size))
  have HS3 := Lib.hid (sametup_any w8 a3 a n c3 cap l HL.out (HR73.out.below' b8) (HR.out.below' HB8.out))
  clear b8 HB7 HR73 HS5
  go_wp2_with (go_at_call 10; go_must (refine HS3.out.mono ?_))
  rintro e w9 ⟨rfl, b9⟩
  have HB9 := Lib.hid (HB8.out.trans (b9.mono HB8.out.size))
  clear b9 HB8 HS3
  go_wp2
  go_ret
  exact ⟨rfl, HB9.out⟩
end Go.Proofs.YtlibncefiibgaaaDoor
