/- sentrylaw37.fixed (written by gen_wirefixed.py). -/
import Derived.Test.YtdonibkkdhokpaaGreatZWireGr0
import Derived.Test.YtdonibkkdhokpaaGreatZWireV
namespace Go.Proofs.YtdonibkkdhokpaaGreat
open Go Go.RowKit

def req0 : Req := ⟨⟨#[]⟩, 0, 0, 0, ⟨#[]⟩, 0, ⟨#[]⟩, ⟨#[]⟩, ⟨#[]⟩, ⟨#[]⟩, [], [], [], []⟩

theorem req0_in : ReqIn req0 := ⟨⟨by unfold in64; decide, by unfold in64; decide⟩, by decide, by decide, fun x hx => by cases hx⟩

theorem req0_len : (reqB req0).length = 16 := by
  unfold reqB req0
  simp [txt_zero, txts, listB, enc_zero, show zig 0 = 0 from rfl]

theorem req0_low : ReqLow req0 := ⟨req0_in, by rw [req0_len]; decide, by decide, by decide, by decide, by decide⟩

theorem sm0 : Sm ⟨#[]⟩ := by unfold Sm; decide

theorem req0_read : readReq (reqB req0) = some req0 := readReq_reqB req0 req0_in ⟨sm0, sm0, sm0, sm0, sm0, sm0, ⟨by decide, fun x hx => by cases hx⟩, ⟨by decide, fun x hx => by cases hx⟩, ⟨by decide, fun x hx => by cases hx⟩, ⟨by decide, fun x hx => by cases hx⟩⟩

theorem none_read : readReq [] = none := by
  unfold readReq
  rw [if_neg]
  rw [show starts2 [113, 49] [] = false from rfl]
  rintro ⟨h, _⟩
  unfold startL at h
  rw [show starts2 [113, 49] [] = false from rfl, if_neg (by decide)] at h
  revert h
  decide

theorem nil_read (w : World) (k : Nat) : Reads w k (.slice none 0 0) 0 [] := ⟨by simp, none, 0, rfl, Nat.le_refl _, Nat.zero_le _, fun j u hj => by simp at hj⟩

theorem req0_r (w : World) : ReqR w req0 none none none none 0 0 0 0 0 0 0 0 := ⟨nil_read w 7, nil_read w 7, nil_read w 6, nil_read w 4, rfl, rfl, rfl, rfl⟩

def Got37 (w : World) (e : Ending) (w' : World) : Prop :=
  ∃ a1 a2 a3 a4 c1 c2 c3 c4, e = .returned (.tuple #[.agg #[.string ⟨#[]⟩, .int .u64 0, .int .i64 0, .int .i64 0, .string ⟨#[]⟩, .int .u64 0, .string ⟨#[]⟩, .string ⟨#[]⟩, .string ⟨#[]⟩, .string ⟨#[]⟩, .slice a1 0 c1, .slice a2 0 c2, .slice a3 0 c3, .slice a4 0 c4], .int .i64 0]) ∧ Below w.heap.size w w' ∧ ReqR w' req0 a1 a2 a3 a4 0 0 0 0 c1 c2 c3 c4

theorem got37 {w w' : World} {e : Ending} (h : GotReq w (some req0) e w') : Got37 w e w' := by
  obtain ⟨hb, ⟨h, _⟩ | ⟨q, v1, v2, v3, v4, hq, rfl, ho⟩⟩ := h
  · cases h
  · cases hq
    obtain ⟨a1, a2, a3, a4, c1, c2, c3, c4, rfl, rfl, rfl, rfl, hr⟩ := ho.reqR
    exact ⟨a1, a2, a3, a4, c1, c2, c3, c4, rfl, hb, hr⟩

def Not37 (w : World) (e : Ending) (w' : World) : Prop := e = .returned (.tuple #[.agg #[.string ⟨#[]⟩, .int .u64 0, .int .i64 0, .int .i64 0, .string ⟨#[]⟩, .int .u64 0, .string ⟨#[]⟩, .string ⟨#[]⟩, .string ⟨#[]⟩, .string ⟨#[]⟩, .slice none 0 0, .slice none 0 0, .slice none 0 0, .slice none 0 0], .int .i64 9]) ∧ Below w.heap.size w w'

theorem not37 {w w' : World} {e : Ending} (h : GotReq w none e w') : Not37 w e w' := by
  obtain ⟨hb, ⟨_, rfl⟩ | ⟨q, v1, v2, v3, v4, hq, _⟩⟩ := h
  · exact ⟨rfl, hb⟩
  · cases hq

set_option maxRecDepth 100000 in
set_option maxHeartbeats 8000000 in
theorem fixed37_any (w : World) : Calls Tryz.prog 4 #[] w (GivesBool w true) := by
  have HP := Lib.hid (show Calls Tryz.prog 11 #[.agg #[.string ⟨#[]⟩, .int .u64 0, .int .i64 0, .int .i64 0, .string ⟨#[]⟩, .int .u64 0, .string ⟨#[]⟩, .string ⟨#[]⟩, .string ⟨#[]⟩, .string ⟨#[]⟩, .slice none 0 0, .slice none 0 0, .slice none 0 0, .slice none 0 0]] w (BytesPost w (reqB req0)) from putreq_v (req0_r w) req0_low)
  have HG := Lib.hid (fun (W : World) (u : Value) (h : Sl W.heap.size W u (reqB req0)) => (getrequest_any W W.heap.size u _ h (Nat.le_refl _) (by rw [req0_len]; decide)).mono fun e w' hp => got37 (by rw [req0_read] at hp; exact hp))
  have HN := Lib.hid (fun (W : World) => (getrequest_any W W.heap.size (.slice none 0 0) [] (.inl ⟨⟨none, rfl⟩, rfl⟩) (Nat.le_refl _) (by decide)).mono fun e w' hp => not37 (by rw [none_read] at hp; exact hp))
  have HLen := Lib.hid req0_len
  have HLow := Lib.hid req0_low
  obtain ⟨L, hL⟩ : ∃ L, reqB req0 = L := ⟨_, rfl⟩
  rw [hL] at HP HG HLen
  clear hL
  obtain ⟨P, hP⟩ : ∃ P, [112, 49] ++ enc 3 ++ [0, 0, 0, 0, 0, 0, 0, 0, 0, 0, 0, 0, 0, 0] = P := ⟨_, rfl⟩
  have HR := Lib.hid (fun W => putresponse0 W 3 (by decide))
  have HS := Lib.hid (fun (W : World) (u : Value) (h : Sl W.heap.size W u ([112, 49] ++ enc 3 ++ [0, 0, 0, 0, 0, 0, 0, 0, 0, 0, 0, 0, 0, 0])) => getresponse0 W W.heap.size u 3 (by decide) h (Nat.le_refl _))
  rw [hP] at HR HS
  clear hP
  go_enter Tryz.func4, Tryz.ntmps4
  go_wp2_with (go_at_call 11; go_must (refine HP.out.mono ?_))
  rintro e w1 ⟨v1, rfl, o1, b1⟩
  obtain ⟨x1, y1, rfl, _, _⟩ := (ownsRow.reads o1).le
  have HB := Lib.hid b1
  have HG1 := Lib.hid (HG.out w1 _ (own_sl o1))
  clear o1 b1 HP HG
  go_wp2_with (go_at_call 12; go_must (refine HG1.out.mono ?_))
  rintro e w2 ⟨a1, a2, a3, a4, c1, c2, c3, c4, rfl, b2, r2⟩
  have HX0 := Lib.hid (heap_alloc_new w2 (.cells #[.string ⟨#[]⟩, .int .u64 0, .int .i64 0, .int .i64 0, .string ⟨#[]⟩, .int .u64 0, .string ⟨#[]⟩, .string ⟨#[]⟩, .string ⟨#[]⟩, .string ⟨#[]⟩, .slice a1 0 c1, .slice a2 0 c2, .slice a3 0 c3, .slice a4 0 c4] 54))
  have hba : Below w2.heap.size w2 (w2.alloc (.cells #[.string ⟨#[]⟩, .int .u64 0, .int .i64 0, .int .i64 0, .string ⟨#[]⟩, .int .u64 0, .string ⟨#[]⟩, .string ⟨#[]⟩, .string ⟨#[]⟩, .string ⟨#[]⟩, .slice a1 0 c1, .slice a2 0 c2, .slice a3 0 c3, .slice a4 0 c4] 54)) := (Below.refl _ _).alloc (Nat.le_refl _) _
  have HB := Lib.hid ((HB.out.trans (b2.mono HB.out.size)).trans (hba.mono (Nat.le_trans HB.out.size b2.size)))
  have HQ := Lib.hid (r2.below hba)
  clear b2 r2 HG1 hba
  go_upto_region 3 with fail
  obtain ⟨g3, hg3⟩ : ∃ g, w2.heap.size = g := ⟨_, rfl⟩
  rw [hg3] at HX0
  rw [hg3]
  clear hg3
  generalize w2.alloc (.cells #[.string ⟨#[]⟩, .int .u64 0, .int .i64 0, .int .i64 0, .string ⟨#[]⟩, .int .u64 0, .string ⟨#[]⟩, .string ⟨#[]⟩, .string ⟨#[]⟩, .string ⟨#[]⟩, .slice a1 0 c1, .slice a2 0 c2, .slice a3 0 c3, .slice a4 0 c4] 54) = w3 at *
  have HX := Lib.hid HX0.out
  clear HX0
  go_wp2_with (go_at_call 12; go_must (refine (HN.out _).mono ?_))
  rintro e w4 ⟨rfl, b4⟩
  have hba : Below w4.heap.size w4 (w4.alloc (.cells #[.string ⟨#[]⟩, .int .u64 0, .int .i64 0, .int .i64 0, .string ⟨#[]⟩, .int .u64 0, .string ⟨#[]⟩, .string ⟨#[]⟩, .string ⟨#[]⟩, .string ⟨#[]⟩, .slice none 0 0, .slice none 0 0, .slice none 0 0, .slice none 0 0] 54)) := (Below.refl _ _).alloc (Nat.le_refl _) _
  have hb34 := b4.trans (hba.mono b4.size)
  have HB := Lib.hid (HB.out.trans (hb34.mono HB.out.size))
  have HQ := Lib.hid (HQ.out.below hb34)
  have HX := Lib.hid ((hb34.block g3 (Array.getElem?_eq_some_iff.1 HX.out).1).trans HX.out)
  clear b4 hba hb34 HN
  go_upto_region 4 with fail
  generalize w4.alloc (.cells #[.string ⟨#[]⟩, .int .u64 0, .int .i64 0, .int .i64 0, .string ⟨#[]⟩, .int .u64 0, .string ⟨#[]⟩, .string ⟨#[]⟩, .string ⟨#[]⟩, .string ⟨#[]⟩, .slice none 0 0, .slice none 0 0, .slice none 0 0, .slice none 0 0] 54) = w5 at *
  go_wp2_with (go_at_call 6; go_must (refine (HR.out _).mono ?_))
  rintro e w6 ⟨v6, rfl, o6, b6⟩
  obtain ⟨x6, y6, rfl, _, _⟩ := (ownsRow.reads o6).le
  have HB := Lib.hid (HB.out.trans (b6.mono HB.out.size))
  have HQ := Lib.hid (HQ.out.below b6)
  have HX := Lib.hid ((b6.block g3 (Array.getElem?_eq_some_iff.1 HX.out).1).trans HX.out)
  have HS1 := Lib.hid (HS.out w6 _ (own_sl o6))
  clear o6 b6 HR HS
  go_wp2_with (go_at_call 8; go_must (refine HS1.out.mono ?_))
  rintro e w7 ⟨rfl, b7⟩
  have hba : Below w7.heap.size w7 (w7.alloc (.cells #[.int .u64 3, .int .i64 0, .int .u64 0, .string ⟨#[]⟩, .slice none 0 0, .slice none 0 0, .slice none 0 0, .slice none 0 0, .slice none 0 0, .int .i64 0, .string ⟨#[]⟩, .string ⟨#[]⟩, .string ⟨#[]⟩, .slice none 0 0, .slice none 0 0] 36)) := (Below.refl _ _).alloc (Nat.le_refl _) _
  have hb78 := b7.trans (hba.mono b7.size)
  have HB := Lib.hid (HB.out.trans (hb78.mono HB.out.size))
  have HQ := Lib.hid (HQ.out.below hb78)
  have HX := Lib.hid ((hb78.block g3 (Array.getElem?_eq_some_iff.1 HX.out).1).trans HX.out)
  have HY := Lib.hid (heap_alloc_new w7 (.cells #[.int .u64 3, .int .i64 0, .int .u64 0, .string ⟨#[]⟩, .slice none 0 0, .slice none 0 0, .slice none 0 0, .slice none 0 0, .slice none 0 0, .int .i64 0, .string ⟨#[]⟩, .string ⟨#[]⟩, .string ⟨#[]⟩, .slice none 0 0, .slice none 0 0] 36))
  clear b7 hba hb78 HS1
  go_upto_region 6 with fail
  obtain ⟨g9, hg9⟩ : ∃ g, w7.heap.size = g := ⟨_, rfl⟩
  rw [hg9] at HY
  rw [hg9]
  clear hg9
  generalize w7.alloc (.cells #[.int .u64 3, .int .i64 0, .int .u64 0, .string ⟨#[]⟩, .slice none 0 0, .slice none 0 0, .slice none 0 0, .slice none 0 0, .slice none 0 0, .int .i64 0, .string ⟨#[]⟩, .string ⟨#[]⟩, .string ⟨#[]⟩, .slice none 0 0, .slice none 0 0] 36) = w8 at *
  have k0 := Lib.cell_of_heap HX.out 0
  have k1 := Lib.cell_of_heap HX.out 1
  have k2 := Lib.cell_of_heap HX.out 2
  have k3 := Lib.cell_of_heap HX.out 3
  have k4 := Lib.cell_of_heap HX.out 4
  have k5 := Lib.cell_of_heap HX.out 5
  have k6 := Lib.cell_of_heap HX.out 6
  have k7 := Lib.cell_of_heap HX.out 7
  have k8 := Lib.cell_of_heap HX.out 8
  have k9 := Lib.cell_of_heap HX.out 9
  have k10 := Lib.cell_of_heap HX.out 10
  have k11 := Lib.cell_of_heap HX.out 11
  have k12 := Lib.cell_of_heap HX.out 12
  have k13 := Lib.cell_of_heap HX.out 13
  simp at k0 k1 k2 k3 k4 k5 k6 k7 k8 k9 k10 k11 k12 k13
  have y0 := Lib.cell_of_heap HY.out 0
  simp at y0
  have hg3l := (Array.getElem?_eq_some_iff.1 HX.out).1
  have hg9l := (Array.getElem?_eq_some_iff.1 HY.out).1
  have hll := HLen.out
  have HSm := Lib.hid (show Calls Tryz.prog 13 #[.agg #[.string ⟨#[]⟩, .int .u64 0, .int .i64 0, .int .i64 0, .string ⟨#[]⟩, .int .u64 0, .string ⟨#[]⟩, .string ⟨#[]⟩, .string ⟨#[]⟩, .string ⟨#[]⟩, .slice a1 0 c1, .slice a2 0 c2, .slice a3 0 c3, .slice a4 0 c4], .agg #[.string ⟨#[]⟩, .int .u64 0, .int .i64 0, .int .i64 0, .string ⟨#[]⟩, .int .u64 0, .string ⟨#[]⟩, .string ⟨#[]⟩, .string ⟨#[]⟩, .string ⟨#[]⟩, .slice none 0 0, .slice none 0 0, .slice none 0 0, .slice none 0 0]] w8 (GivesBool w8 true) from samereq_v w8 req0 a1 a2 a3 a4 none none none none 0 0 0 0 c1 c2 c3 c4 0 0 0 0 HQ.out (req0_r w8) HLow.out)
  go_wp2_with (go_at_call 13; go_must (refine HSm.out.mono ?_))
  rintro e w9 ⟨rfl, b9⟩
  have HB := Lib.hid (HB.out.trans (b9.mono HB.out.size))
  have HY := Lib.hid ((b9.block g9 hg9l).trans HY.out)
  clear b9 y0 hg9l hg3l k0 k1 k2 k3 k4 k5 k6 k7 k8 k9 k10 k11 k12 k13 HX HQ HSm
  have y0 := Lib.cell_of_heap HY.out 0
  simp at y0
  have hg9l := (Array.getElem?_eq_some_iff.1 HY.out).1
  go_wp2
  go_ret
  exact ⟨rfl, HB.out⟩
end Go.Proofs.YtdonibkkdhokpaaGreat
