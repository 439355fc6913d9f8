/- What the document fixes, of a disk. -/
import Derived.Test.YtbhapbioibhalaaDiskSt
import Derived.Lib.SlBytesConst
namespace Go.Proofs.Ytbhapbioibhalaa
open Go Go.RowKit Go.Maps

theorem mark_reads (w : World) (l : List UInt8) (n : Nat) (fr : Nat × Nat) (hl : l.length = n) (hn : n ≤ maxLen) : Reads (w.alloc (.cells (bcells l).toArray 5 fr)) 1 (.slice (some ⟨w.heap.size, 0, none⟩) n n) n (bcells l) := by
  refine ⟨by rw [bcells_length]; omega, _, n, rfl, Nat.le_refl _, hn, fun j u hj => ⟨_, _, rfl, by simp, ?_⟩⟩
  rw [show (0 + j) = j by omega, World.cell?_alloc_mark w _ _ fr j]
  simpa using hj

set_option maxRecDepth 100000 in
set_option maxHeartbeats 4000000 in
theorem fixed_any (W : World) : Calls Try.prog 8 #[] W (GivesBool W true) := by
  have HN := Lib.hid (new_any W 100)
  have kc := fun (w : World) (C : Array Value) (n c : Nat) => Lib.run_convert_bytes_const (P := Try.prog) w 29 5 C n c Try.underlying29 Try.underlying5
  go_enter Try.func8, Try.ntmps8
  go_wp2_with (go_at_call 10; go_must (refine HN.out.mono ?_))
  rintro e w1 ⟨rfl, b1, d1⟩
  generalize W.heap.size + 2 = D at *
  have s1 := st_new W.heap.size (roomOf 100)
  generalize dk0 W.heap.size (roomOf 100) = S1 at *
  have hr : roomOf 100 = 100 := rfl
  rw [hr] at s1
  have z1 : (-1 : Int) ≠ 0 := by decide
  have HB1 := Lib.hid b1
  have HD1 := Lib.hid d1
  have HS1 := Lib.hid s1
  have HC := Lib.hid (create_any d1 aB (by decide) (by rw [s1.acts]; decide))
  rw [s1.create z1 aB_ok rfl (by decide)] at HC
  clear b1 d1 s1 hr HN
  go_wp2_with (go_at_call 20; go_must (refine HC.out.mono ?_))
  rintro e w2 ⟨rfl, t2, T2, hc2, d2⟩
  obtain ⟨g, _, s2, f2⟩ := HS1.out.created z1 aB_ok rfl (by decide) hc2
  have b2 : Below W.heap.size W w2 := HB1.out.trans (t2.below HB1.out.size (fun x hx => (HD1.out.lt x hx).2))
  have bA := (Below.refl w2.heap.size w2).alloc (Nat.le_refl _) (.cells #[.int .u8 120, .int .u8 121, .int .u8 122] 5 (3, 4))
  have s2 : St T2 [(aB, g)] [] [.add aB g] 100 (-1) false 1 := s2
  have hf2 : fileOf [(aB, g)] aB = some g := by simp [fileOf]
  have hsum2 : sumD T2.fl [(aB, g)] = 0 := by unfold sumD; rw [f2]; simp [updF]
  have HA := Lib.hid (append_any (d2.below bA) aB (by decide) (by rw [s2.dir]; simp) (.slice (some ⟨w2.heap.size, 0, none⟩) 3 3) [120, 121, 122] (mark_reads w2 [120, 121, 122] 3 (3, 4) rfl (by decide)) (by decide) (fun _ x hx e => by
    have h1 := (d2.lt x e).1
    simp [Value.ownBlock] at hx
    omega))
  have hap : appendE T2 aB ([120, 121, 122] : List UInt8).length = 0 := by rw [s2.appendE aB_ok hf2, hsum2]; rfl
  rw [hap] at HA
  have HB2 := Lib.hid (b2.trans (bA.mono b2.size))
  have HD2 := Lib.hid d2
  have HS2 := Lib.hid s2
  have HF2 := Lib.hid f2
  have HFo := Lib.hid hf2
  have HB2' := Lib.hid bA
  clear t2 hc2 d2 s2 f2 b2 bA hf2 hsum2 hap HC
  go_wp2_with (go_at_call 21; go_must (refine HA.out.mono ?_))
  rintro e w3 ⟨rfl, t3, T3, hc3, d3⟩
  obtain ⟨s3, f3⟩ := (HS2.out.filed aB_ok HFo.out hc3).2.1 rfl z1
  have b3 : Below W.heap.size W w3 := HB2.out.trans (t3.below HB2.out.size (fun x hx => (HD2.out.lt x hx).2))
  have f3 : T3.fl g = ⟨[120, 121, 122], 0⟩ := by rw [f3, updF_same, HF2.out, updF_same]; rfl
  have s3 : St T3 [(aB, g)] [] [.add aB g] 100 (-1) false 1 := s3
  have HY := Lib.hid (syncdir_any d3 (Nat.le_trans s3.gs (by decide)))
  have HD3 := Lib.hid d3
  have HS3 := Lib.hid s3
  have HF3 := Lib.hid f3
  have HB3 := Lib.hid b3
  rw [show syncdirE T3 = 0 by unfold syncdirE; rw [s3.down]; exact s3.burnE0 z1] at HY
  clear t3 hc3 d3 s3 f3 b3 HA
  go_wp2_with (go_at_call 23; go_must (refine HY.out.mono ?_))
  rintro e w4 ⟨rfl, t4, T4, hc4, d4⟩
  obtain ⟨_, s4, f4⟩ := HS3.out.synced z1 hc4
  have b4 : Below W.heap.size W w4 := HB3.out.trans (t4.below HB3.out.size (fun x hx => (HD3.out.lt x hx).2))
  have s4 : St T4 [(aB, g)] [(aB, g)] [] 100 (-1) false 1 := s4
  have f4 : T4.fl g = ⟨[120, 121, 122], 0⟩ := by rw [f4, HF3.out]
  have HY := Lib.hid (sync_any d4 aB (by decide))
  rw [show syncE T4 aB = 0 by unfold syncE; rw [s4.found aB_ok HFo.out, if_neg (by simp), s4.burnE0 z1]] at HY
  have HD4 := Lib.hid d4
  have HS4 := Lib.hid s4
  have HF4 := Lib.hid f4
  have HB4 := Lib.hid b4
  clear t4 hc4 d4 s4 f4 b4
  go_wp2_with (go_at_call 22; go_must (refine HY.out.mono ?_))
  rintro e w5 ⟨rfl, t5, T5, hc5, d5⟩
  obtain ⟨s5, f5⟩ := (HS4.out.filed aB_ok HFo.out hc5).2.1 rfl z1
  have b5 : Below W.heap.size W w5 := HB4.out.trans (t5.below HB4.out.size (fun x hx => (HD4.out.lt x hx).2))
  have s5 : St T5 [(aB, g)] [(aB, g)] [] 100 (-1) false 1 := s5
  have f5 : T5.fl g = ⟨[120, 121, 122], 3⟩ := by rw [f5, updF_same, HF4.out]; rfl
  have HY := Lib.hid (crash_any d5 (.slice none 0 0) [] ⟨rfl, none, 0, rfl, Nat.le_refl _, Nat.zero_le _, fun j u hj => by simp [bcells] at hj⟩ (Nat.le_trans s5.gs (by decide)) (by rw [s5.acts]; simp) (fun _ x hx => by cases hx))
  have HD5 := Lib.hid d5
  have HS5 := Lib.hid s5
  have HF5 := Lib.hid f5
  have HB5 := Lib.hid b5
  clear t5 hc5 d5 s5 f5 b5
  go_wp2_with (go_at_call 24; go_must (refine HY.out.mono ?_))
  rintro e w6 ⟨rfl, t6, T6, hc6, d6⟩
  obtain ⟨s6, f6⟩ := HS5.out.crashed hc6
  have b6 : Below W.heap.size W w6 := HB5.out.trans (t6.below HB5.out.size (fun x hx => (HD5.out.lt x hx).2))
  have s6 : St T6 [(aB, g)] [(aB, g)] [] 100 (-1) false 1 := s6
  have f6 : T6.fl g = ⟨[120, 121, 122], 3⟩ := by
    rw [f6]
    show cutFl T5.fl g (nextE [] ((T5.fl g).data.length - (T5.fl g).safe)) g = _
    unfold cutFl
    rw [updF_same, HF5.out]
    rfl
  have HY := Lib.hid (read_any d6 aB (by decide))
  have hfd := s6.found aB_ok HFo.out
  have HD6 := Lib.hid d6
  have HS6 := Lib.hid s6
  have HF6 := Lib.hid f6
  have HB6 := Lib.hid b6
  have HFd := Lib.hid hfd
  clear t6 hc6 d6 s6 f6 b6 hfd
  go_wp2_with (go_at_call 18; go_must (refine HY.out.mono ?_))
  rintro e w7 ⟨v7, rfl, b7, h7⟩
  rw [HFd.out] at h7 ⊢
  have o7 : w7.ownsRow w6.heap.size 5 1 v7 3 (bcells [120, 121, 122]) := by
    rcases h7 with ⟨h8, _⟩ | ⟨g', h8, h9⟩
    · cases h8
    · cases h8
      rw [HF6.out] at h9
      exact h9
  have hcv : (convert 29 9 v7).run Try.prog w7 = .ok (.string ⟨#[120, 121, 122]⟩) w7 := Reads.conv (P := Try.prog) (src := 29) (e := 5) (dst := 9) Try.underlying29 Try.underlying5 Try.underlying9 (ownsRow.reads o7)
  have d7 := HD6.out.below b7
  have HL := Lib.hid (list_any d7 (Nat.le_trans HS6.out.gs (by decide)))
  have HU := Lib.hid (fun w (b : Below w7.heap.size w7 w) => used_any (d7.below b) (by rw [HS6.out.dir]; simp))
  have hll : listL T6 = [aB] := by unfold listL; rw [HS6.out.down, HS6.out.dir]; rfl
  have huu : usedE T6 = 3 := by rw [HS6.out.used]; unfold sumD; simp [HF6.out]
  rw [hll] at HL
  rw [huu] at HU
  have HB7 := Lib.hid (HB6.out.trans (b7.mono HB6.out.size))
  clear b7 h7 o7 d7 hll huu HY
  go_wp2_with (first | (go_at_call 16; go_must (refine HL.out.mono ?_); rintro e w8 ⟨v8, rfl, o8, b8⟩; obtain ⟨a8, c8, hv8, _, _⟩ := (ownsRow.reads o8).le; subst hv8) | (go_at_call 13; go_must (refine (HU.out _ b8).mono ?_); rintro e w9 ⟨rfl, b9⟩))
  go_ret
  exact ⟨rfl, (HB7.out.trans (b8.mono HB7.out.size)).trans (b9.mono (Nat.le_trans HB7.out.size b8.size))⟩
end Go.Proofs.Ytbhapbioibhalaa
