/- The law CachePlays. -/
import Derived.Test.YtdooedlapoknbaaCachePlaysM
namespace Go.Proofs.Ytdooedlapoknbaa
open Go Go.RowKit Go.Maps

set_option maxRecDepth 100000 in
set_option maxHeartbeats 8000000 in
theorem cachePlays_walk (w : World) (room : Int) (a : Option Addr) (len cap : Nat) (l : List CAct) (h : CActsAt w a len cap l) (hl : len ≤ maxLen) :
    Calls Try.prog 5 #[.int .i64 room, .slice a len cap] w (SaysTrue w) := by
  obtain ⟨i0, hi, hz0, hz1, hz2⟩ := info_parts info9
  have hfewc := fun w' (hb : Below w.heap.size w w') => few_any w' a len cap l (h.below hb) hl
  have hlen := h.1
  have HF := Lib.hid hfewc
  have HA := Lib.hid h
  have HL := Lib.hid hlen
  clear hfewc h hlen
  go_enter Try.func5, Try.ntmps5
  go_wp2_with (go_at_call 6; go_must (refine (fixed_any _).mono ?_))
  rintro e w1 ⟨rfl, b1⟩
  have B1 := Lib.hid b1
  clear b1
  go_wp2_with (go_at_call 12; go_must (refine (HF.out _ B1.out).mono ?_))
  rintro e w2 ⟨rfl, b2⟩
  have B2 := Lib.hid (B1.out.trans (b2.mono B1.out.size))
  clear b2 B1 HF
  by_cases hfew : fewC l = true
  case neg =>
    rw [Bool.not_eq_true] at hfew
    rw [hfew]
    go_wp2
    go_ret
    exact ⟨rfl, B2.out⟩
  rw [hfew]
  have hlen := (fewC_of hfew).1
  rw [HL.out] at hlen
  clear hl
  go_wp2_with (go_at_call 13; go_must (refine (cnew_any _ room).mono ?_))
  rintro e w3 ⟨c, rfl, hca, b3⟩
  have hca := (hca anyG).less B2.out.size
  have HCA := Lib.hid hca
  have B3 := Lib.hid (B2.out.trans (b3.mono B2.out.size))
  clear hca b3 B2
  go_wp2_with (go_at_call 15; go_must (refine (rnew_any _ room).mono ?_))
  rintro e w4 ⟨b, rfl, hrc, b4⟩
  obtain ⟨rm, hrm⟩ : ∃ r : Nat, r = room.toNat := ⟨_, rfl⟩
  rw [← hrm] at HCA hrc
  clear hrm
  have hps : PSt w l c b rm 0 anyG [] w4 := ⟨HCA.out.fresh b4, hrc.less B3.out.size, fun x hx => by simp at hx, Nat.le_refl _, B3.out.trans (b4.mono B3.out.size)⟩
  have HPs := Lib.hid hps
  clear hps hrc b4 HCA B3
  obtain ⟨room, rfl⟩ : ∃ r, r = rm := ⟨_, rfl⟩
  go_wp2
  go_loopw [27] (fun i wr => PlaysRel w l c b room i wr) (fun i _ => len - (intOf i).toNat)
  case atStart => exact ⟨0, anyG, [], rfl, Nat.zero_le _, HPs.out⟩
  case round =>
    obtain ⟨k, G, R, rfl, hk, hps⟩ := hrel
    rw [HL.out] at hk
    clear HPs
    by_cases hlt : k < len
    · obtain ⟨x, hx⟩ : ∃ x, l[k]? = some x := ⟨_, List.getElem?_eq_getElem (by rw [HL.out]; exact hlt)⟩
      obtain ⟨hfit, g, off, rfl, hg, c0, c1, c2, c3⟩ := (HA.out.below hps.below).at hx
      have hxf := (fewC_of hfew).2 x (List.mem_of_getElem? hx)
      have hkx : x.k < 256 := hfit.1
      have ba := (Below.refl wr.heap.size wr).alloc (Nat.le_refl _) (.cells #[.int .u8 (x.k : Int), .int .i64 x.f, .int .i64 x.b, .slice x.a x.ks.length x.cap] 36)
      have HAct := Lib.hid (heap_alloc_new wr (.cells #[.int .u8 (x.k : Int), .int .i64 x.f, .int .i64 x.b, .slice x.a x.ks.length x.cap] 36))
      have hs0 : PSt w l c b room k (fun g => g < wr.heap.size) R wr := ⟨hps.ca.tight, hps.rc, hps.mem, hps.len, hps.below⟩
      have HS0 := Lib.hid (hs0.fresh ba)
      have HRk := Lib.hid (hfit.2.2.2.2)
      have hfI := hfit.2.1
      have hbI := hfit.2.2.1
      have hkI : (k : Int) < len := by omega
      have HXm := Lib.hid (List.mem_of_getElem? hx)
      have hgs : wr.heap.size < (wr.alloc (.cells #[.int .u8 (x.k : Int), .int .i64 x.f, .int .i64 x.b, .slice x.a x.ks.length x.cap] 36)).heap.size := by simp
      have HRk2 : Hid (Reads (wr.alloc (.cells #[.int .u8 (x.k : Int), .int .i64 x.f, .int .i64 x.b, .slice x.a x.ks.length x.cap] 36)) 1 (.slice x.a x.ks.length x.cap) x.ks.length (scells x.ks)) := Lib.hid (HRk.out.below' ba)
      clear hs0 hps ba hfit hx
      by_cases hp : x.k % 3 = 0
      · have hpI : ((x.k : Int) % 3 == 0) = true := by simp; omega
        go_upto_region 13 with fail
        clear c0 c1 c2 c3 hg
        generalize wr.alloc (.cells #[.int .u8 (x.k : Int), .int .i64 x.f, .int .i64 x.b, .slice x.a x.ks.length x.cap] 36) = w5 at *
        generalize wr.heap.size = g7 at *
        have d3 := Lib.cell_of_heap HAct.out 3
        simp at d3
        have hsrc := Reads.src (P := Try.prog) (tx := 26) Try.underlying26 (HRk2.out.alloc (.cells #[] 9)) (scells_one x.ks)
        have hf0 : (w5.alloc (.cells #[] 9)).ownsRow w5.heap.size 9 1 (.slice (some ⟨w5.heap.size, 0, none⟩) 0 0) 0 [] := World.ownsRow_lit w5 #[] 0 (Nat.le_refl _) (Nat.zero_le _) rfl
        go_wp2_with (at_builtin; go_must (refine wpList_append_owns rfl _ _ 26 26 rfl w5.heap.size 9 i0 (.string ⟨#[]⟩) 1 16 Try.underlying26 hi hz0 hz1 hz2 rfl (.slice (some ⟨w5.heap.size, 0, none⟩) 0 0) 0 [] rfl hf0 (.slice x.a x.ks.length x.cap) x.ks.length (scells x.ks) rfl hsrc ?_ ?_ ?_ ?_))
        · unfold maxLen; omega
        · omega
        · simp
        intro v2 w6 f2 _ b2 _
        have hf : w6.ownsRow w5.heap.size 9 1 v2 x.ks.length (scells x.ks) := by simpa using f2
        obtain ⟨a9, cap9, gown, rfl, hrd, hblk⟩ := (newRow_owns hf).block
        have hb6 : Below w5.heap.size w5 w6 := ((Below.refl w5.heap.size w5).alloc (Nat.le_refl _) (.cells #[] 9)).trans b2
        have HS6 := Lib.hid (HS0.out.fresh hb6)
        have hact6 := (hb6.block g7 (Array.getElem?_eq_some_iff.1 HAct.out).1).trans HAct.out
        have hs56 := hb6.size
        have hw5 : w.heap.size ≤ w5.heap.size := HS0.out.below.size
        have hrs := rsum_few hfew HS0.out.mem
        have hrl := HS0.out.len
        have HPut := Lib.hid (put_any w6 w.heap.size c room (R.map entR) x.f x.b a9 x.ks.length cap9 x.ks hfI hbI hrd HS6.out.ca (by rw [used_ent]; omega) (by omega) (by rw [List.length_map]; omega))
        have HBlk := Lib.hid hblk
        have HAct6 := Lib.hid hact6
        have e1 := Lib.cell_of_heap hact6 1
        have e2 := Lib.cell_of_heap hact6 2
        simp at e1 e2
        have hglt6 : g7 < w6.heap.size := (Array.getElem?_eq_some_iff.1 hact6).1
        clear f2 b2 hf hrd hblk hb6 hact6 hsrc hf0 d3 HS0 HAct
        go_wp2_with (go_at_call 7; go_must (refine HPut.out.mono ?_))
        rintro e w7 ⟨rfl, hca, hcf⟩
        have hact7 := hcf.keep g7 _ _ _ HAct6.out (by decide) (by decide)
        have hb7 : Below w.heap.size w w7 := HS6.out.below.trans hcf.below
        have hlow : RLow w.heap.size w7 (R ++ [x]) := fun w' hb y hy => by
          rcases List.mem_append.1 hy with e | e
          · exact HS6.out.keys HA.out hfew w' (hb7.trans hb) y e
          · simp at e
            subst e
            obtain ⟨_, _, _, _, h5⟩ := HA.out.2.2 y HXm.out
            exact ⟨h5.below' (hb7.trans hb), by omega, by omega⟩
        have HRPut := Lib.hid (rput_any w7 w.heap.size b room R x (HS6.out.rc.cf hcf) hlow (by omega) (by rw [rsum_app, rsum_cons]; have : rsum ([] : List CAct) = 0 := rfl; omega))
        have HAct7 := Lib.hid hact7
        have HCA := Lib.hid hca
        have HCf := Lib.hid hcf
        have q1 := Lib.cell_of_heap hact7 1
        have q2 := Lib.cell_of_heap hact7 2
        have q3 := Lib.cell_of_heap hact7 3
        simp at q1 q2 q3
        have hglt7 : g7 < w7.heap.size := (Array.getElem?_eq_some_iff.1 hact7).1
        clear hact7 hb7 hlow hca hcf HPut e1 e2 HAct6 hglt6
        go_wp2_with (go_at_call 16; go_must (refine HRPut.out.mono ?_))
        rintro e w8 ⟨rfl, R0, hleft, hrc, hrf⟩
        have hent : putE room (R.map entR) x.f x.b x.ks = (trimR room (R0 ++ [x])).map entR := by
          unfold putE
          rw [left_ent hleft HS6.out.ca.nodup, ← trim_ent, List.map_append]
          rfl
        have hs : PSt w l c b room (k + 1) (G1of g7 w6.heap.size) (trimR room (R0 ++ [x])) w8 := by
          refine ⟨?_, hrc, fun y hy => ?_, ?_, (HS6.out.below.trans HCf.out.below).trans hrf.below⟩
          · rw [← hent]
            exact HCA.out.rf hrf
          · rcases List.mem_append.1 (trimR_mem hy) with e | e
            · exact HS6.out.mem y (hleft.mem y e)
            · simp at e
              rw [e]
              exact HXm.out
          · have h1 := trimR_len room (R0 ++ [x])
            have h2 := hleft.sum.2
            simp at h1
            omega
        have hown : 0 < x.ks.length → a9 = some ⟨gown, 0, none⟩ ∧ ¬ G1of g7 w6.heap.size gown ∧ w.heap.size ≤ gown ∧ ∃ cs, w8.heap[gown]? = some (Obj.cells cs 9 (0, 0)) ∧ x.ks.length ≤ cs.size := by
          intro h0
          obtain ⟨h1, h2, cs, h3, h4⟩ := HBlk.out h0
          have h5 := (Array.getElem?_eq_some_iff.1 h3).1
          have h6 := HCf.out.keep gown _ _ _ h3 (by decide) (by decide)
          have h7 := hrf.keep gown _ h6 (fun _ _ e => by injection e with _ e _; exact absurd e (by decide)) (fun _ _ e => by injection e with _ e _; exact absurd e (by decide))
          refine ⟨h1, by unfold G1of; omega, ?_, cs, h7, h4⟩
          omega
        have HS := Lib.hid hs
        have HOwn := Lib.hid hown
        clear hs hown hent hleft hrc hrf HCA HCf HRPut HBlk HS6 q1 q2 q3 HAct7 HRk HRk2
        generalize trimR room (R0 ++ [x]) = R1 at *
        generalize G1of g7 w6.heap.size = G1 at *
        generalize x.ks.length = n9 at *
        go_wp2
        go_loopw [65] (fun i wi => TurnRel w l c b room (k + 1) G1 R1 gown n9 i wi) (fun i _ => n9 - (intOf i).toNat)
        case atStart => exact ⟨0, rfl, Nat.zero_le _, HS.out, fun h0 => (HOwn.out h0).2.2.2⟩
        case round =>
          obtain ⟨j, rfl, hj, hs9, hh9⟩ := hrel
          have HS9 := Lib.hid hs9
          clear hs9 HS
          by_cases hjn : j < n9
          · have hjI : (j : Int) < n9 := by omega
            have h0n : 0 < n9 := by omega
            obtain ⟨rfl, hnG, hwg, _⟩ := HOwn.out h0n
            obtain ⟨cs, hgc, hcs⟩ := hh9 h0n
            have hglt : gown < wr.heap.size := (Array.getElem?_eq_some_iff.1 hgc).1
            have q0 := Lib.cell_of_heap hgc j
            have qf := Lib.frozen_of_heap hgc j
            rw [Array.getElem?_eq_getElem (show j < cs.size by omega)] at q0
            generalize cs[j]'(by omega) = q9 at q0
            have hst := HS9.out.turn hgc hnG hwg j (.string ⟨#[63]⟩)
            have hgs : (wr.setCell ⟨gown, j, none⟩ (.string ⟨#[63]⟩)).heap[gown]? = some (Obj.cells (cs.setIfInBounds j (.string ⟨#[63]⟩)) 9 (0, 0)) := heap_setCell_same _ gown j _ _ _ hgc
            have HSt := Lib.hid hst
            have HGs := Lib.hid hgs
            clear hst hgs hgc hh9
            go_wp2
            exact ⟨⟨j + 1, by go_num, by omega, HSt.out, fun _ => ⟨_, HGs.out, by simpa using hcs⟩⟩, by simp [intOf]; omega⟩
          · obtain rfl : j = n9 := by omega
            have HS := HS9
            clear HS9 hh9 hjn
            obtain ⟨W9, hW9⟩ : ∃ W, W = wr := ⟨_, rfl⟩
            subst hW9
            have hsum1 : rsum R1 ≤ 1000000000 := by
              have h1 := rsum_few hfew HS.out.mem
              have h2 := HS.out.len
              omega
            obtain ⟨rv, hrb, hrB, hrown⟩ := HS.out.rc
            obtain ⟨ra, rcap, rfl, hrc1, hrc2⟩ := hrown.reads.le
            have d1 := Lib.cell_of_heap hrb 1
            simp at d1
            have hblt : b < W9.heap.size := (Array.getElem?_eq_some_iff.1 hrb).1
            clear hrb hrown
            go_upto_region 31 with fail
            refine wp_region_all (by kernel_rfl) [eqF (.pointer (some ⟨c, 0, none⟩)), eqF (.int .i64 (R1.length : Int)), eqF (.pointer (some ⟨b, 0, none⟩)), eqF (.pointer (some ⟨b, 0, none⟩)), eqF (.pointer (some ⟨b, 1, none⟩)), eqF (.slice ra R1.length rcap), eqF (.int .i64 (R1.length : Int)), eqF (.bool false), eqF (.bool false), eqF (.pointer (some ⟨c, 0, none⟩)), eqF (.int .i64 (rsum R1 : Int)), eqF (.pointer (some ⟨b, 0, none⟩)), eqF (.int .i64 (rsum R1 : Int)), eqF (.bool false), eqF (.bool false)] (by kernel_rfl) ⟨?_, ?_, ?_, ?_, ?_, ?_, ?_, ?_, ?_, ?_, ?_, ?_, ?_, ?_, ?_, trivial⟩ ⟨trivial, trivial, trivial, trivial, trivial, trivial, trivial, trivial, trivial, fun _ _ h => h, fun _ _ h => h, fun _ _ h => h, fun _ _ h => h, fun _ _ h => h, trivial, trivial⟩ ?_
            · intro ρ wx hρ hbx hl
              have e5 : ρ (.tmp 5) = .pointer (some ⟨c, 0, none⟩) := hρ.tmp 5 (by decide +kernel)
              refine y_val (v := .pointer (some ⟨c, 0, none⟩)) ?_ rfl
              simp [execOp, go_sem, e5]
            · intro ρ wx hρ hbx hl
              have e110 : ρ (.tmp 110) = .pointer (some ⟨c, 0, none⟩) := hl 0 (by decide +kernel) 110 rfl
              refine y_call (f := 10) (args := #[.pointer (some ⟨c, 0, none⟩)]) (by simp [execOp, resolve, invoke, hρ.func, go_sem, e110]) ?_
              refine (len_any wx w.heap.size c room (R1.map entR) (HS.out.fresh hbx).ca).mono ?_
              rintro e w6 ⟨rfl, rfl⟩
              exact ⟨_, rfl, by rw [List.length_map]; rfl, Below.refl _ _⟩
            · intro ρ wx hρ hbx hl
              have e6 : ρ (.tmp 6) = .pointer (some ⟨b, 0, none⟩) := hρ.tmp 6 (by decide +kernel)
              refine y_val (v := .pointer (some ⟨b, 0, none⟩)) ?_ rfl
              simp [execOp, go_sem, e6]
            · intro ρ wx hρ hbx hl
              have e112 : ρ (.tmp 112) = .pointer (some ⟨b, 0, none⟩) := hl 2 (by decide +kernel) 112 rfl
              refine y_val (v := .pointer (some ⟨b, 0, none⟩)) ?_ rfl
              simp [execOp, go_sem, e112]
            · intro ρ wx hρ hbx hl
              have e113 : ρ (.tmp 113) = .pointer (some ⟨b, 0, none⟩) := hl 3 (by decide +kernel) 113 rfl
              refine y_val (v := .pointer (some ⟨b, 1, none⟩)) ?_ rfl
              simp [execOp, go_sem, e113]
            · intro ρ wx hρ hbx hl
              have e114 : ρ (.tmp 114) = .pointer (some ⟨b, 1, none⟩) := hl 4 (by decide +kernel) 114 rfl
              have kk := (hbx.cell (hblt)).trans d1
              refine y_val (v := .slice ra R1.length rcap) ?_ rfl
              simp [execOp, go_sem, e114, kk]
            · intro ρ wx hρ hbx hl
              have e115 : ρ (.tmp 115) = .slice ra R1.length rcap := hl 5 (by decide +kernel) 115 rfl
              refine y_val (v := .int .i64 (R1.length : Int)) ?_ rfl
              simp [go_sem, e115]
            · intro ρ wx hρ hbx hl
              have e111 : ρ (.tmp 111) = .int .i64 (R1.length : Int) := hl 1 (by decide +kernel) 111 rfl
              have e116 : ρ (.tmp 116) = .int .i64 (R1.length : Int) := hl 6 (by decide +kernel) 116 rfl
              refine y_val (v := .bool false) ?_ rfl
              simp [execOp, go_sem, e111, e116]
            · intro ρ wx hρ hbx hl
              have e117 : ρ (.tmp 117) = .bool false := hl 7 (by decide +kernel) 117 rfl
              refine y_val (v := .bool false) ?_ rfl
              simp [execOp, go_sem, e117]
            · intro ρ wx hρ hbx hl
              have e5 : ρ (.tmp 5) = .pointer (some ⟨c, 0, none⟩) := hρ.tmp 5 (by decide +kernel)
              refine y_val (v := .pointer (some ⟨c, 0, none⟩)) ?_ rfl
              simp [execOp, go_sem, e5]
            · intro ρ wx hρ hbx hl
              have e119 : ρ (.tmp 119) = .pointer (some ⟨c, 0, none⟩) := hl 9 (by decide +kernel) 119 rfl
              refine y_call (f := 11) (args := #[.pointer (some ⟨c, 0, none⟩)]) (by simp [execOp, resolve, invoke, hρ.func, go_sem, e119]) ?_
              refine (used_any wx w.heap.size c room (R1.map entR) (HS.out.fresh hbx).ca).mono ?_
              rintro e w6 ⟨rfl, rfl⟩
              exact ⟨_, rfl, by rw [used_ent]; rfl, Below.refl _ _⟩
            · intro ρ wx hρ hbx hl
              have e6 : ρ (.tmp 6) = .pointer (some ⟨b, 0, none⟩) := hρ.tmp 6 (by decide +kernel)
              refine y_val (v := .pointer (some ⟨b, 0, none⟩)) ?_ rfl
              simp [execOp, go_sem, e6]
            · intro ρ wx hρ hbx hl
              have e121 : ρ (.tmp 121) = .pointer (some ⟨b, 0, none⟩) := hl 11 (by decide +kernel) 121 rfl
              refine y_call (f := 19) (args := #[.pointer (some ⟨b, 0, none⟩)]) (by simp [execOp, resolve, invoke, hρ.func, go_sem, e121]) ?_
              refine (rused_any wx w.heap.size b room R1 (HS.out.fresh hbx).rc (HS.out.keys HA.out hfew _ (HS.out.below.trans (hbx.mono HS.out.below.size))) hsum1).mono ?_
              rintro e w6 ⟨rfl, b6⟩
              exact ⟨_, rfl, rfl, b6⟩
            · intro ρ wx hρ hbx hl
              have e120 : ρ (.tmp 120) = .int .i64 (rsum R1 : Int) := hl 10 (by decide +kernel) 120 rfl
              have e122 : ρ (.tmp 122) = .int .i64 (rsum R1 : Int) := hl 12 (by decide +kernel) 122 rfl
              refine y_val (v := .bool false) ?_ rfl
              simp [execOp, go_sem, e120, e122]
            · intro ρ wx hρ hbx hl
              have e118 : ρ (.tmp 118) = .bool false := hl 8 (by decide +kernel) 118 rfl
              have e123 : ρ (.tmp 123) = .bool false := hl 13 (by decide +kernel) 123 rfl
              refine y_val (v := .bool false) ?_ rfl
              simp [execOp, go_sem, e118, e123]
            intro aa wz hdef hsz hlk hbz hf
            have ha := act_of_like hdef hsz hlk [110, 111, 112, 113, 114, 115, 116, 117, 118, 119, 120, 121, 122, 123, 124] 126 rfl (by decide +kernel)
            have e110 : aa.tmps.getD 110 undef = .pointer (some ⟨c, 0, none⟩) := hf 0 _ 110 rfl rfl
            have e111 : aa.tmps.getD 111 undef = .int .i64 (R1.length : Int) := hf 1 _ 111 rfl rfl
            have e112 : aa.tmps.getD 112 undef = .pointer (some ⟨b, 0, none⟩) := hf 2 _ 112 rfl rfl
            have e113 : aa.tmps.getD 113 undef = .pointer (some ⟨b, 0, none⟩) := hf 3 _ 113 rfl rfl
            have e114 : aa.tmps.getD 114 undef = .pointer (some ⟨b, 1, none⟩) := hf 4 _ 114 rfl rfl
            have e115 : aa.tmps.getD 115 undef = .slice ra R1.length rcap := hf 5 _ 115 rfl rfl
            have e116 : aa.tmps.getD 116 undef = .int .i64 (R1.length : Int) := hf 6 _ 116 rfl rfl
            have e117 : aa.tmps.getD 117 undef = .bool false := hf 7 _ 117 rfl rfl
            have e118 : aa.tmps.getD 118 undef = .bool false := hf 8 _ 118 rfl rfl
            have e119 : aa.tmps.getD 119 undef = .pointer (some ⟨c, 0, none⟩) := hf 9 _ 119 rfl rfl
            have e120 : aa.tmps.getD 120 undef = .int .i64 (rsum R1 : Int) := hf 10 _ 120 rfl rfl
            have e121 : aa.tmps.getD 121 undef = .pointer (some ⟨b, 0, none⟩) := hf 11 _ 121 rfl rfl
            have e122 : aa.tmps.getD 122 undef = .int .i64 (rsum R1 : Int) := hf 12 _ 122 rfl rfl
            have e123 : aa.tmps.getD 123 undef = .bool false := hf 13 _ 123 rfl rfl
            have e124 : aa.tmps.getD 124 undef = .bool false := hf 14 _ 124 rfl rfl
            simp only [putAll, List.foldl_cons, List.foldl_nil, e110, e111, e112, e113, e114, e115, e116, e117, e118, e119, e120, e121, e122, e123, e124] at ha
            simp [Act.put] at ha
            subst ha
            clear hdef hsz hlk hf e110 e111 e112 e113 e114 e115 e116 e117 e118 e119 e120 e121 e122 e123 e124
            have HS2 := Lib.hid (HS.out.fresh hbz)
            clear hbz d1 hblt
            go_wp2
            exact ⟨⟨k + 1, G1, R1, by go_num, by rw [HL.out]; omega, HS2.out⟩, by simp [intOf]; omega⟩
      · have hpI : ((x.k : Int) % 3 == 0) = false := by simp; omega
        by_cases hp1 : x.k % 3 = 1
        · have hpI1 : ((x.k : Int) % 3 == 1) = true := by simp; omega
          go_upto_region 22 with fail
          clear c0 c1 c2 c3 hg
          generalize wr.alloc (.cells #[.int .u8 (x.k : Int), .int .i64 x.f, .int .i64 x.b, .slice x.a x.ks.length x.cap] 36) = w5 at *
          generalize wr.heap.size = g7 at *
          have hw5 : w.heap.size ≤ w5.heap.size := HS0.out.below.size
          have hrl := HS0.out.len
          have HG := Lib.hid (get_any w5 w.heap.size c room (R.map entR) x.f x.b hfI hbI HS0.out.ca (fun p hp => by
            obtain ⟨z, hz, rfl⟩ := List.mem_map.1 hp
            have := ((fewC_of hfew).2 z (HS0.out.mem z hz)).1
            show z.ks.length ≤ _
            omega))
          have HU := Lib.hid HS0.out.ca.nodup
          have e1 := Lib.cell_of_heap HAct.out 1
          have e2 := Lib.cell_of_heap HAct.out 2
          simp at e1 e2
          have hglt : g7 < w5.heap.size := (Array.getElem?_eq_some_iff.1 HAct.out).1
          go_wp2_with (go_at_call 9; go_must (refine HG.out.mono ?_))
          rintro e w6 hgp
          rcases hgp with ⟨ks, v, hm, rfl, hv, hca, hcf⟩ | ⟨hno, rfl, rfl⟩
          · have hact6 := hcf.keep g7 _ _ _ HAct.out (by decide) (by decide)
            have q1 := Lib.cell_of_heap hact6 1
            have q2 := Lib.cell_of_heap hact6 2
            simp at q1 q2
            have hglt6 : g7 < w6.heap.size := (Array.getElem?_eq_some_iff.1 hact6).1
            obtain ⟨va, vcap, gown, rfl, hvr, hblk⟩ := hv.block
            have HRG := Lib.hid (rget_any w6 w.heap.size b room R x.f x.b (HS0.out.rc.cf hcf) (by omega))
            have HVr := Lib.hid hvr
            have HBlk := Lib.hid hblk
            have HCA := Lib.hid hca
            have HCf := Lib.hid hcf
            have HM := Lib.hid hm
            clear hact6 hv hvr hblk hca hcf hm HG e1 e2 hglt
            go_wp2_with (go_at_call 17; go_must (refine HRG.out.mono ?_))
            rintro e w7 hrp
            rcases hrp with ⟨A, y, Z, hR, hA, hy, rfl, hrc, hrf⟩ | ⟨hno, _⟩
            case inr =>
              obtain ⟨z, hz, he⟩ := List.mem_map.1 HM.out
              injection he with h1 h2
              injection h2 with h2 _
              exact absurd ⟨h1, h2⟩ (hno z hz)
            have hyR : y ∈ R := by rw [hR]; simp
            have hks : y.ks = ks := by
              have h1 : entR y ∈ R.map entR := List.mem_map.2 ⟨y, hyR, rfl⟩
              have h2 := ent_uniq (fun p : Int × Int × List ByteArray => (p.1, p.2.1)) HU.out h1 HM.out (by show (y.f, y.b) = (x.f, x.b); rw [hy.1, hy.2])
              injection h2 with _ h2
              injection h2
            have hkl : ks.length ≤ 20 := by
              rw [← hks]
              exact ((fewC_of hfew).2 y (HS0.out.mem y hyR)).1
            have hb7 : Below w.heap.size w w7 := (HS0.out.below.trans HCf.out.below).trans hrf.below
            have hkr : Reads w7 1 (.slice y.a y.ks.length y.cap) y.ks.length (scells y.ks) := (HS0.out.keys HA.out hfew w7 hb7 y hyR).1
            have hvb7 : 0 < ks.length → ∃ cs, w7.heap[gown]? = some (Obj.cells cs 9 (0, 0)) ∧ ks.length ≤ cs.size := fun h0 => by
              obtain ⟨_, _, cs, h3, h4⟩ := HBlk.out h0
              exact ⟨cs, hrf.keep gown _ h3 (fun _ _ e => by injection e with _ e _; exact absurd e (by decide)) (fun _ _ e => by injection e with _ e _; exact absurd e (by decide)), h4⟩
            have hvr7 : Reads w7 1 (.slice va ks.length vcap) ks.length (scells ks) := by
              obtain ⟨h1, a', cap', h2, h3, h4, h5⟩ := HVr.out
              refine ⟨h1, a', cap', h2, h3, h4, fun j u hj => ?_⟩
              obtain ⟨g', off', h6, h7, h8⟩ := h5 j u hj
              have h0 : 0 < ks.length := by
                have := (List.getElem?_eq_some_iff.1 hj).1
                rw [scells_length] at this
                omega
              obtain ⟨k1, k2, cs, k3, k4⟩ := HBlk.out h0
              cases h2
              rw [k1] at h6
              cases h6
              have k5 := hrf.keep gown _ k3 (fun _ _ e => by injection e with _ e _; exact absurd e (by decide)) (fun _ _ e => by injection e with _ e _; exact absurd e (by decide))
              refine ⟨gown, 0, k1, (Array.getElem?_eq_some_iff.1 k5).1, ?_⟩
              unfold World.cell? at h8 ⊢
              rw [k3] at h8
              rw [k5]
              exact h8
            have hsm := sames_any w7 va y.a ks.length y.ks.length vcap y.cap ks y.ks hvr7 hkr
            rw [decide_eq_true hks.symm] at hsm
            have hent : others (R.map entR) x.f x.b ++ [(x.f, x.b, ks)] = (A ++ Z ++ [y]).map entR := by
              rw [left_ent (.inl ⟨A, y, Z, hR, hA, hy, rfl⟩) HU.out, List.map_append (l₁ := A ++ Z)]
              show _ = _ ++ [(y.f, y.b, y.ks)]
              rw [hy.1, hy.2, hks]
            have hs : PSt w l c b room (k + 1) (fun g => g < g7) (A ++ Z ++ [y]) w7 := by
              refine ⟨?_, hrc, fun z hz => HS0.out.mem z ?_, ?_, hb7⟩
              · rw [← hent]
                exact HCA.out.rf hrf
              · rw [hR]
                simp at hz ⊢
                rcases hz with e | e | e <;> simp [e]
              · rw [hR] at hrl
                simp at hrl ⊢
                omega
            have hown : 0 < ks.length → va = some ⟨gown, 0, none⟩ ∧ ¬ gown < g7 ∧ w.heap.size ≤ gown ∧ ∃ cs, w7.heap[gown]? = some (Obj.cells cs 9 (0, 0)) ∧ ks.length ≤ cs.size := fun h0 => by
              obtain ⟨h1, h2, _⟩ := HBlk.out h0
              exact ⟨h1, by omega, by omega, hvb7 h0⟩
            have HS7 := Lib.hid hs
            have HOwn7 := Lib.hid hown
            have HSm := Lib.hid hsm
            clear hs hown hsm hent hrc hrf hR hA hy hks hb7 hkr hvb7 hvr7 HM HCA HCf HVr HBlk HRG q1 q2 hglt6 HRk HRk2 HS0 HAct hyR
            generalize A ++ Z ++ [y] = R1 at *
            generalize hya : y.a = ya at *
            generalize hyc : y.cap = yc at *
            generalize hyk : y.ks.length = yn at *
            clear hya hyc hyk
            go_wp2_with (go_at_call 14; go_must (refine HSm.out.mono ?_))
            rintro e w8 ⟨rfl, b8⟩
            have HS := Lib.hid (HS7.out.fresh b8)
            have hG1 : ∃ G1 : Nat → Prop, G1 = fun g => g < g7 := ⟨_, rfl⟩
            obtain ⟨G1, hG1⟩ := hG1
            rw [← hG1] at HS
            have HOwn : Hid (0 < ks.length → va = some ⟨gown, 0, none⟩ ∧ ¬ G1 gown ∧ w.heap.size ≤ gown ∧ ∃ cs, w8.heap[gown]? = some (Obj.cells cs 9 (0, 0)) ∧ ks.length ≤ cs.size) := Lib.hid fun h0 => by
              obtain ⟨h1, h2, h3, cs, h4, h5⟩ := HOwn7.out h0
              exact ⟨h1, by rw [hG1]; exact h2, h3, cs, (b8.block gown (Array.getElem?_eq_some_iff.1 h4).1).trans h4, h5⟩
            clear b8 HS7 HOwn7 hG1 HSm
            generalize ks.length = n9 at *
            go_wp2
            go_loopw [103] (fun i wi => TurnRel w l c b room (k + 1) G1 R1 gown n9 i wi) (fun i _ => n9 - (intOf i).toNat)
            case atStart => exact ⟨0, rfl, Nat.zero_le _, HS.out, fun h0 => (HOwn.out h0).2.2.2⟩
            case round =>
              obtain ⟨j, rfl, hj, hs9, hh9⟩ := hrel
              have HS9 := Lib.hid hs9
              clear hs9 HS
              by_cases hjn : j < n9
              · have hjI : (j : Int) < n9 := by omega
                have h0n : 0 < n9 := by omega
                obtain ⟨rfl, hnG, hwg, _⟩ := HOwn.out h0n
                obtain ⟨cs, hgc, hcs⟩ := hh9 h0n
                have hglt : gown < wr.heap.size := (Array.getElem?_eq_some_iff.1 hgc).1
                have q0 := Lib.cell_of_heap hgc j
                have qf := Lib.frozen_of_heap hgc j
                rw [Array.getElem?_eq_getElem (show j < cs.size by omega)] at q0
                generalize cs[j]'(by omega) = q9 at q0
                have hst := HS9.out.turn hgc hnG hwg j (.string ⟨#[33]⟩)
                have hgs : (wr.setCell ⟨gown, j, none⟩ (.string ⟨#[33]⟩)).heap[gown]? = some (Obj.cells (cs.setIfInBounds j (.string ⟨#[33]⟩)) 9 (0, 0)) := heap_setCell_same _ gown j _ _ _ hgc
                have HSt := Lib.hid hst
                have HGs := Lib.hid hgs
                clear hst hgs hgc hh9
                go_wp2
                exact ⟨⟨j + 1, by go_num, by omega, HSt.out, fun _ => ⟨_, HGs.out, by simpa using hcs⟩⟩, by simp [intOf]; omega⟩
              · obtain rfl : j = n9 := by omega
                have HS := HS9
                clear HS9 hh9 hjn
                obtain ⟨W9, hW9⟩ : ∃ W, W = wr := ⟨_, rfl⟩
                subst hW9
                have hsum1 : rsum R1 ≤ 1000000000 := by
                  have h1 := rsum_few hfew HS.out.mem
                  have h2 := HS.out.len
                  omega
                obtain ⟨rv, hrb, hrB, hrown⟩ := HS.out.rc
                obtain ⟨ra, rcap, rfl, hrc1, hrc2⟩ := hrown.reads.le
                have d1 := Lib.cell_of_heap hrb 1
                simp at d1
                have hblt : b < W9.heap.size := (Array.getElem?_eq_some_iff.1 hrb).1
                clear hrb hrown
                go_upto_region 31 with fail
                refine wp_region_all (by kernel_rfl) [eqF (.pointer (some ⟨c, 0, none⟩)), eqF (.int .i64 (R1.length : Int)), eqF (.pointer (some ⟨b, 0, none⟩)), eqF (.pointer (some ⟨b, 0, none⟩)), eqF (.pointer (some ⟨b, 1, none⟩)), eqF (.slice ra R1.length rcap), eqF (.int .i64 (R1.length : Int)), eqF (.bool false), eqF (.bool false), eqF (.pointer (some ⟨c, 0, none⟩)), eqF (.int .i64 (rsum R1 : Int)), eqF (.pointer (some ⟨b, 0, none⟩)), eqF (.int .i64 (rsum R1 : Int)), eqF (.bool false), eqF (.bool false)] (by kernel_rfl) ⟨?_, ?_, ?_, ?_, ?_, ?_, ?_, ?_, ?_, ?_, ?_, ?_, ?_, ?_, ?_, trivial⟩ ⟨trivial, trivial, trivial, trivial, trivial, trivial, trivial, trivial, trivial, fun _ _ h => h, fun _ _ h => h, fun _ _ h => h, fun _ _ h => h, fun _ _ h => h, trivial, trivial⟩ ?_
                · intro ρ wx hρ hbx hl
                  have e5 : ρ (.tmp 5) = .pointer (some ⟨c, 0, none⟩) := hρ.tmp 5 (by decide +kernel)
                  refine y_val (v := .pointer (some ⟨c, 0, none⟩)) ?_ rfl
                  simp [execOp, go_sem, e5]
                · intro ρ wx hρ hbx hl
                  have e110 : ρ (.tmp 110) = .pointer (some ⟨c, 0, none⟩) := hl 0 (by decide +kernel) 110 rfl
                  refine y_call (f := 10) (args := #[.pointer (some ⟨c, 0, none⟩)]) (by simp [execOp, resolve, invoke, hρ.func, go_sem, e110]) ?_
                  refine (len_any wx w.heap.size c room (R1.map entR) (HS.out.fresh hbx).ca).mono ?_
                  rintro e w6 ⟨rfl, rfl⟩
                  exact ⟨_, rfl, by rw [List.length_map]; rfl, Below.refl _ _⟩
                · intro ρ wx hρ hbx hl
                  have e6 : ρ (.tmp 6) = .pointer (some ⟨b, 0, none⟩) := hρ.tmp 6 (by decide +kernel)
                  refine y_val (v := .pointer (some ⟨b, 0, none⟩)) ?_ rfl
                  simp [execOp, go_sem, e6]
                · intro ρ wx hρ hbx hl
                  have e112 : ρ (.tmp 112) = .pointer (some ⟨b, 0, none⟩) := hl 2 (by decide +kernel) 112 rfl
                  refine y_val (v := .pointer (some ⟨b, 0, none⟩)) ?_ rfl
                  simp [execOp, go_sem, e112]
                · intro ρ wx hρ hbx hl
                  have e113 : ρ (.tmp 113) = .pointer (some ⟨b, 0, none⟩) := hl 3 (by decide +kernel) 113 rfl
                  refine y_val (v := .pointer (some ⟨b, 1, none⟩)) ?_ rfl
                  simp [execOp, go_sem, e113]
                · intro ρ wx hρ hbx hl
                  have e114 : ρ (.tmp 114) = .pointer (some ⟨b, 1, none⟩) := hl 4 (by decide +kernel) 114 rfl
                  have kk := (hbx.cell (hblt)).trans d1
                  refine y_val (v := .slice ra R1.length rcap) ?_ rfl
                  simp [execOp, go_sem, e114, kk]
                · intro ρ wx hρ hbx hl
                  have e115 : ρ (.tmp 115) = .slice ra R1.length rcap := hl 5 (by decide +kernel) 115 rfl
                  refine y_val (v := .int .i64 (R1.length : Int)) ?_ rfl
                  simp [go_sem, e115]
                · intro ρ wx hρ hbx hl
                  have e111 : ρ (.tmp 111) = .int .i64 (R1.length : Int) := hl 1 (by decide +kernel) 111 rfl
                  have e116 : ρ (.tmp 116) = .int .i64 (R1.length : Int) := hl 6 (by decide +kernel) 116 rfl
                  refine y_val (v := .bool false) ?_ rfl
                  simp [execOp, go_sem, e111, e116]
                · intro ρ wx hρ hbx hl
                  have e117 : ρ (.tmp 117) = .bool false := hl 7 (by decide +kernel) 117 rfl
                  refine y_val (v := .bool false) ?_ rfl
                  simp [execOp, go_sem, e117]
                · intro ρ wx hρ hbx hl
                  have e5 : ρ (.tmp 5) = .pointer (some ⟨c, 0, none⟩) := hρ.tmp 5 (by decide +kernel)
                  refine y_val (v := .pointer (some ⟨c, 0, none⟩)) ?_ rfl
                  simp [execOp, go_sem, e5]
                · intro ρ wx hρ hbx hl
                  have e119 : ρ (.tmp 119) = .pointer (some ⟨c, 0, none⟩) := hl 9 (by decide +kernel) 119 rfl
                  refine y_call (f := 11) (args := #[.pointer (some ⟨c, 0, none⟩)]) (by simp [execOp, resolve, invoke, hρ.func, go_sem, e119]) ?_
                  refine (used_any wx w.heap.size c room (R1.map entR) (HS.out.fresh hbx).ca).mono ?_
                  rintro e w6 ⟨rfl, rfl⟩
                  exact ⟨_, rfl, by rw [used_ent]; rfl, Below.refl _ _⟩
                · intro ρ wx hρ hbx hl
                  have e6 : ρ (.tmp 6) = .pointer (some ⟨b, 0, none⟩) := hρ.tmp 6 (by decide +kernel)
                  refine y_val (v := .pointer (some ⟨b, 0, none⟩)) ?_ rfl
                  simp [execOp, go_sem, e6]
                · intro ρ wx hρ hbx hl
                  have e121 : ρ (.tmp 121) = .pointer (some ⟨b, 0, none⟩) := hl 11 (by decide +kernel) 121 rfl
                  refine y_call (f := 19) (args := #[.pointer (some ⟨b, 0, none⟩)]) (by simp [execOp, resolve, invoke, hρ.func, go_sem, e121]) ?_
                  refine (rused_any wx w.heap.size b room R1 (HS.out.fresh hbx).rc (HS.out.keys HA.out hfew _ (HS.out.below.trans (hbx.mono HS.out.below.size))) hsum1).mono ?_
                  rintro e w6 ⟨rfl, b6⟩
                  exact ⟨_, rfl, rfl, b6⟩
                · intro ρ wx hρ hbx hl
                  have e120 : ρ (.tmp 120) = .int .i64 (rsum R1 : Int) := hl 10 (by decide +kernel) 120 rfl
                  have e122 : ρ (.tmp 122) = .int .i64 (rsum R1 : Int) := hl 12 (by decide +kernel) 122 rfl
                  refine y_val (v := .bool false) ?_ rfl
                  simp [execOp, go_sem, e120, e122]
                · intro ρ wx hρ hbx hl
                  have e118 : ρ (.tmp 118) = .bool false := hl 8 (by decide +kernel) 118 rfl
                  have e123 : ρ (.tmp 123) = .bool false := hl 13 (by decide +kernel) 123 rfl
                  refine y_val (v := .bool false) ?_ rfl
                  simp [execOp, go_sem, e118, e123]
                intro aa wz hdef hsz hlk hbz hf
                have ha := act_of_like hdef hsz hlk [110, 111, 112, 113, 114, 115, 116, 117, 118, 119, 120, 121, 122, 123, 124] 126 rfl (by decide +kernel)
                have e110 : aa.tmps.getD 110 undef = .pointer (some ⟨c, 0, none⟩) := hf 0 _ 110 rfl rfl
                have e111 : aa.tmps.getD 111 undef = .int .i64 (R1.length : Int) := hf 1 _ 111 rfl rfl
                have e112 : aa.tmps.getD 112 undef = .pointer (some ⟨b, 0, none⟩) := hf 2 _ 112 rfl rfl
                have e113 : aa.tmps.getD 113 undef = .pointer (some ⟨b, 0, none⟩) := hf 3 _ 113 rfl rfl
                have e114 : aa.tmps.getD 114 undef = .pointer (some ⟨b, 1, none⟩) := hf 4 _ 114 rfl rfl
                have e115 : aa.tmps.getD 115 undef = .slice ra R1.length rcap := hf 5 _ 115 rfl rfl
                have e116 : aa.tmps.getD 116 undef = .int .i64 (R1.length : Int) := hf 6 _ 116 rfl rfl
                have e117 : aa.tmps.getD 117 undef = .bool false := hf 7 _ 117 rfl rfl
                have e118 : aa.tmps.getD 118 undef = .bool false := hf 8 _ 118 rfl rfl
                have e119 : aa.tmps.getD 119 undef = .pointer (some ⟨c, 0, none⟩) := hf 9 _ 119 rfl rfl
                have e120 : aa.tmps.getD 120 undef = .int .i64 (rsum R1 : Int) := hf 10 _ 120 rfl rfl
                have e121 : aa.tmps.getD 121 undef = .pointer (some ⟨b, 0, none⟩) := hf 11 _ 121 rfl rfl
                have e122 : aa.tmps.getD 122 undef = .int .i64 (rsum R1 : Int) := hf 12 _ 122 rfl rfl
                have e123 : aa.tmps.getD 123 undef = .bool false := hf 13 _ 123 rfl rfl
                have e124 : aa.tmps.getD 124 undef = .bool false := hf 14 _ 124 rfl rfl
                simp only [putAll, List.foldl_cons, List.foldl_nil, e110, e111, e112, e113, e114, e115, e116, e117, e118, e119, e120, e121, e122, e123, e124] at ha
                simp [Act.put] at ha
                subst ha
                clear hdef hsz hlk hf e110 e111 e112 e113 e114 e115 e116 e117 e118 e119 e120 e121 e122 e123 e124
                have HS2 := Lib.hid (HS.out.fresh hbz)
                clear hbz d1 hblt
                go_wp2
                exact ⟨⟨k + 1, G1, R1, by go_num, by rw [HL.out]; omega, HS2.out⟩, by simp [intOf]; omega⟩
          · have HRG := Lib.hid (rget_any w6 w.heap.size b room R x.f x.b HS0.out.rc (by omega))
            have HNo := Lib.hid hno
            clear hno HG
            go_wp2_with (go_at_call 17; go_must (refine HRG.out.mono ?_))
            rintro e w7 hrp
            rcases hrp with ⟨A, y, Z, hR, hA, hy, rfl, hrc, hrf⟩ | ⟨_, rfl, hrc, hrf⟩
            case inl =>
              exact absurd hy (HNo.out (entR y) (List.mem_map.2 ⟨y, by rw [hR]; simp, rfl⟩))
            have hnil : Reads w7 1 (.slice none 0 0) 0 (scells []) := ⟨by simp [scells], none, 0, rfl, Nat.le_refl _, Nat.zero_le _, fun j u hj => by simp [scells] at hj⟩
            have hsm := sames_any w7 none none 0 0 0 0 [] [] hnil hnil
            rw [decide_eq_true (rfl : ([] : List ByteArray) = [])] at hsm
            have hs : PSt w l c b room (k + 1) (fun g => g < g7) R w7 := ⟨HS0.out.ca.rf hrf, hrc, HS0.out.mem, by omega, HS0.out.below.trans hrf.below⟩
            have HS7 := Lib.hid hs
            have HSm := Lib.hid hsm
            clear hs hsm hrc hrf hnil HRG HRk HRk2 HS0 HAct HNo e1 e2 hglt
            go_wp2_with (go_at_call 14; go_must (refine HSm.out.mono ?_))
            rintro e w8 ⟨rfl, b8⟩
            have HS := Lib.hid (HS7.out.fresh b8)
            clear b8 HS7 HSm
            generalize (fun g => g < g7 : Nat → Prop) = G1 at *
            obtain ⟨R1, rfl⟩ : ∃ R1, R1 = R := ⟨_, rfl⟩
            go_wp2
            go_loopw [103] (fun i wi => i = .int .i64 0 ∧ wi = w8) (fun _ _ => 0)
            case atStart => exact ⟨rfl, rfl⟩
            case round =>
              obtain ⟨rfl, rfl⟩ := hrel
              obtain ⟨W9, hW9⟩ : ∃ W, W = wr := ⟨_, rfl⟩
              subst hW9
              have hsum1 : rsum R1 ≤ 1000000000 := by
                have h1 := rsum_few hfew HS.out.mem
                have h2 := HS.out.len
                omega
              obtain ⟨rv, hrb, hrB, hrown⟩ := HS.out.rc
              obtain ⟨ra, rcap, rfl, hrc1, hrc2⟩ := hrown.reads.le
              have d1 := Lib.cell_of_heap hrb 1
              simp at d1
              have hblt : b < W9.heap.size := (Array.getElem?_eq_some_iff.1 hrb).1
              clear hrb hrown
              go_upto_region 31 with fail
              refine wp_region_all (by kernel_rfl) [eqF (.pointer (some ⟨c, 0, none⟩)), eqF (.int .i64 (R1.length : Int)), eqF (.pointer (some ⟨b, 0, none⟩)), eqF (.pointer (some ⟨b, 0, none⟩)), eqF (.pointer (some ⟨b, 1, none⟩)), eqF (.slice ra R1.length rcap), eqF (.int .i64 (R1.length : Int)), eqF (.bool false), eqF (.bool false), eqF (.pointer (some ⟨c, 0, none⟩)), eqF (.int .i64 (rsum R1 : Int)), eqF (.pointer (some ⟨b, 0, none⟩)), eqF (.int .i64 (rsum R1 : Int)), eqF (.bool false), eqF (.bool false)] (by kernel_rfl) ⟨?_, ?_, ?_, ?_, ?_, ?_, ?_, ?_, ?_, ?_, ?_, ?_, ?_, ?_, ?_, trivial⟩ ⟨trivial, trivial, trivial, trivial, trivial, trivial, trivial, trivial, trivial, fun _ _ h => h, fun _ _ h => h, fun _ _ h => h, fun _ _ h => h, fun _ _ h => h, trivial, trivial⟩ ?_
              · intro ρ wx hρ hbx hl
                have e5 : ρ (.tmp 5) = .pointer (some ⟨c, 0, none⟩) := hρ.tmp 5 (by decide +kernel)
                refine y_val (v := .pointer (some ⟨c, 0, none⟩)) ?_ rfl
                simp [execOp, go_sem, e5]
              · intro ρ wx hρ hbx hl
                have e110 : ρ (.tmp 110) = .pointer (some ⟨c, 0, none⟩) := hl 0 (by decide +kernel) 110 rfl
                refine y_call (f := 10) (args := #[.pointer (some ⟨c, 0, none⟩)]) (by simp [execOp, resolve, invoke, hρ.func, go_sem, e110]) ?_
                refine (len_any wx w.heap.size c room (R1.map entR) (HS.out.fresh hbx).ca).mono ?_
                rintro e w6 ⟨rfl, rfl⟩
                exact ⟨_, rfl, by rw [List.length_map]; rfl, Below.refl _ _⟩
              · intro ρ wx hρ hbx hl
                have e6 : ρ (.tmp 6) = .pointer (some ⟨b, 0, none⟩) := hρ.tmp 6 (by decide +kernel)
                refine y_val (v := .pointer (some ⟨b, 0, none⟩)) ?_ rfl
                simp [execOp, go_sem, e6]
              · intro ρ wx hρ hbx hl
                have e112 : ρ (.tmp 112) = .pointer (some ⟨b, 0, none⟩) := hl 2 (by decide +kernel) 112 rfl
                refine y_val (v := .pointer (some ⟨b, 0, none⟩)) ?_ rfl
                simp [execOp, go_sem, e112]
              · intro ρ wx hρ hbx hl
                have e113 : ρ (.tmp 113) = .pointer (some ⟨b, 0, none⟩) := hl 3 (by decide +kernel) 113 rfl
                refine y_val (v := .pointer (some ⟨b, 1, none⟩)) ?_ rfl
                simp [execOp, go_sem, e113]
              · intro ρ wx hρ hbx hl
                have e114 : ρ (.tmp 114) = .pointer (some ⟨b, 1, none⟩) := hl 4 (by decide +kernel) 114 rfl
                have kk := (hbx.cell (hblt)).trans d1
                refine y_val (v := .slice ra R1.length rcap) ?_ rfl
                simp [execOp, go_sem, e114, kk]
              · intro ρ wx hρ hbx hl
                have e115 : ρ (.tmp 115) = .slice ra R1.length rcap := hl 5 (by decide +kernel) 115 rfl
                refine y_val (v := .int .i64 (R1.length : Int)) ?_ rfl
                simp [go_sem, e115]
              · intro ρ wx hρ hbx hl
                have e111 : ρ (.tmp 111) = .int .i64 (R1.length : Int) := hl 1 (by decide +kernel) 111 rfl
                have e116 : ρ (.tmp 116) = .int .i64 (R1.length : Int) := hl 6 (by decide +kernel) 116 rfl
                refine y_val (v := .bool false) ?_ rfl
                simp [execOp, go_sem, e111, e116]
              · intro ρ wx hρ hbx hl
                have e117 : ρ (.tmp 117) = .bool false := hl 7 (by decide +kernel) 117 rfl
                refine y_val (v := .bool false) ?_ rfl
                simp [execOp, go_sem, e117]
              · intro ρ wx hρ hbx hl
                have e5 : ρ (.tmp 5) = .pointer (some ⟨c, 0, none⟩) := hρ.tmp 5 (by decide +kernel)
                refine y_val (v := .pointer (some ⟨c, 0, none⟩)) ?_ rfl
                simp [execOp, go_sem, e5]
              · intro ρ wx hρ hbx hl
                have e119 : ρ (.tmp 119) = .pointer (some ⟨c, 0, none⟩) := hl 9 (by decide +kernel) 119 rfl
                refine y_call (f := 11) (args := #[.pointer (some ⟨c, 0, none⟩)]) (by simp [execOp, resolve, invoke, hρ.func, go_sem, e119]) ?_
                refine (used_any wx w.heap.size c room (R1.map entR) (HS.out.fresh hbx).ca).mono ?_
                rintro e w6 ⟨rfl, rfl⟩
                exact ⟨_, rfl, by rw [used_ent]; rfl, Below.refl _ _⟩
              · intro ρ wx hρ hbx hl
                have e6 : ρ (.tmp 6) = .pointer (some ⟨b, 0, none⟩) := hρ.tmp 6 (by decide +kernel)
                refine y_val (v := .pointer (some ⟨b, 0, none⟩)) ?_ rfl
                simp [execOp, go_sem, e6]
              · intro ρ wx hρ hbx hl
                have e121 : ρ (.tmp 121) = .pointer (some ⟨b, 0, none⟩) := hl 11 (by decide +kernel) 121 rfl
                refine y_call (f := 19) (args := #[.pointer (some ⟨b, 0, none⟩)]) (by simp [execOp, resolve, invoke, hρ.func, go_sem, e121]) ?_
                refine (rused_any wx w.heap.size b room R1 (HS.out.fresh hbx).rc (HS.out.keys HA.out hfew _ (HS.out.below.trans (hbx.mono HS.out.below.size))) hsum1).mono ?_
                rintro e w6 ⟨rfl, b6⟩
                exact ⟨_, rfl, rfl, b6⟩
              · intro ρ wx hρ hbx hl
                have e120 : ρ (.tmp 120) = .int .i64 (rsum R1 : Int) := hl 10 (by decide +kernel) 120 rfl
                have e122 : ρ (.tmp 122) = .int .i64 (rsum R1 : Int) := hl 12 (by decide +kernel) 122 rfl
                refine y_val (v := .bool false) ?_ rfl
                simp [execOp, go_sem, e120, e122]
              · intro ρ wx hρ hbx hl
                have e118 : ρ (.tmp 118) = .bool false := hl 8 (by decide +kernel) 118 rfl
                have e123 : ρ (.tmp 123) = .bool false := hl 13 (by decide +kernel) 123 rfl
                refine y_val (v := .bool false) ?_ rfl
                simp [execOp, go_sem, e118, e123]
              intro aa wz hdef hsz hlk hbz hf
              have ha := act_of_like hdef hsz hlk [110, 111, 112, 113, 114, 115, 116, 117, 118, 119, 120, 121, 122, 123, 124] 126 rfl (by decide +kernel)
              have e110 : aa.tmps.getD 110 undef = .pointer (some ⟨c, 0, none⟩) := hf 0 _ 110 rfl rfl
              have e111 : aa.tmps.getD 111 undef = .int .i64 (R1.length : Int) := hf 1 _ 111 rfl rfl
              have e112 : aa.tmps.getD 112 undef = .pointer (some ⟨b, 0, none⟩) := hf 2 _ 112 rfl rfl
              have e113 : aa.tmps.getD 113 undef = .pointer (some ⟨b, 0, none⟩) := hf 3 _ 113 rfl rfl
              have e114 : aa.tmps.getD 114 undef = .pointer (some ⟨b, 1, none⟩) := hf 4 _ 114 rfl rfl
              have e115 : aa.tmps.getD 115 undef = .slice ra R1.length rcap := hf 5 _ 115 rfl rfl
              have e116 : aa.tmps.getD 116 undef = .int .i64 (R1.length : Int) := hf 6 _ 116 rfl rfl
              have e117 : aa.tmps.getD 117 undef = .bool false := hf 7 _ 117 rfl rfl
              have e118 : aa.tmps.getD 118 undef = .bool false := hf 8 _ 118 rfl rfl
              have e119 : aa.tmps.getD 119 undef = .pointer (some ⟨c, 0, none⟩) := hf 9 _ 119 rfl rfl
              have e120 : aa.tmps.getD 120 undef = .int .i64 (rsum R1 : Int) := hf 10 _ 120 rfl rfl
              have e121 : aa.tmps.getD 121 undef = .pointer (some ⟨b, 0, none⟩) := hf 11 _ 121 rfl rfl
              have e122 : aa.tmps.getD 122 undef = .int .i64 (rsum R1 : Int) := hf 12 _ 122 rfl rfl
              have e123 : aa.tmps.getD 123 undef = .bool false := hf 13 _ 123 rfl rfl
              have e124 : aa.tmps.getD 124 undef = .bool false := hf 14 _ 124 rfl rfl
              simp only [putAll, List.foldl_cons, List.foldl_nil, e110, e111, e112, e113, e114, e115, e116, e117, e118, e119, e120, e121, e122, e123, e124] at ha
              simp [Act.put] at ha
              subst ha
              clear hdef hsz hlk hf e110 e111 e112 e113 e114 e115 e116 e117 e118 e119 e120 e121 e122 e123 e124
              have HS2 := Lib.hid (HS.out.fresh hbz)
              clear hbz d1 hblt
              go_wp2
              exact ⟨⟨k + 1, G1, R1, by go_num, by rw [HL.out]; omega, HS2.out⟩, by simp [intOf]; omega⟩
        · have hpI1 : ((x.k : Int) % 3 == 1) = false := by simp; omega
          go_upto_region 10 with fail
          clear c0 c1 c2 c3 hg
          generalize wr.alloc (.cells #[.int .u8 (x.k : Int), .int .i64 x.f, .int .i64 x.b, .slice x.a x.ks.length x.cap] 36) = w5 at *
          generalize wr.heap.size = g7 at *
          have hrl := HS0.out.len
          have HD := Lib.hid (drop_any w5 w.heap.size c room (R.map entR) x.f HS0.out.ca)
          have e1 := Lib.cell_of_heap HAct.out 1
          simp at e1
          have hglt : g7 < w5.heap.size := (Array.getElem?_eq_some_iff.1 HAct.out).1
          go_wp2_with (go_at_call 8; go_must (refine HD.out.mono ?_))
          rintro e w6 ⟨rfl, hca, hcf⟩
          have hact6 := hcf.keep g7 _ _ _ HAct.out (by decide) (by decide)
          have q1 := Lib.cell_of_heap hact6 1
          simp at q1
          have hglt6 : g7 < w6.heap.size := (Array.getElem?_eq_some_iff.1 hact6).1
          have HRD := Lib.hid (rdrop_any w6 w.heap.size b room R x.f (HS0.out.rc.cf hcf) (by omega))
          have HCA := Lib.hid hca
          have HCf := Lib.hid hcf
          clear hact6 hca hcf HD e1 hglt HAct
          go_wp2_with (go_at_call 18; go_must (refine HRD.out.mono ?_))
          rintro e W9 ⟨rfl, hrc, hrf⟩
          have hs : PSt w l c b room (k + 1) (fun g => g < g7) (R.filter fun z => !(decide (z.f = x.f))) W9 := by
            refine ⟨?_, hrc, fun z hz => HS0.out.mem z (List.mem_filter.1 hz).1, ?_, (HS0.out.below.trans HCf.out.below).trans hrf.below⟩
            · rw [← drop_ent]
              exact HCA.out.rf hrf
            · have := List.length_filter_le (fun z : CAct => !(decide (z.f = x.f))) R
              omega
          have HS := Lib.hid hs
          clear hs hrc hrf HCA HCf HRD q1 hglt6 HRk HRk2 HS0
          generalize (R.filter fun z => !(decide (z.f = x.f))) = R1 at *
          generalize (fun g => g < g7 : Nat → Prop) = G1 at *
          have hsum1 : rsum R1 ≤ 1000000000 := by
            have h1 := rsum_few hfew HS.out.mem
            have h2 := HS.out.len
            omega
          obtain ⟨rv, hrb, hrB, hrown⟩ := HS.out.rc
          obtain ⟨ra, rcap, rfl, hrc1, hrc2⟩ := hrown.reads.le
          have d1 := Lib.cell_of_heap hrb 1
          simp at d1
          have hblt : b < W9.heap.size := (Array.getElem?_eq_some_iff.1 hrb).1
          clear hrb hrown
          go_upto_region 31 with fail
          refine wp_region_all (by kernel_rfl) [eqF (.pointer (some ⟨c, 0, none⟩)), eqF (.int .i64 (R1.length : Int)), eqF (.pointer (some ⟨b, 0, none⟩)), eqF (.pointer (some ⟨b, 0, none⟩)), eqF (.pointer (some ⟨b, 1, none⟩)), eqF (.slice ra R1.length rcap), eqF (.int .i64 (R1.length : Int)), eqF (.bool false), eqF (.bool false), eqF (.pointer (some ⟨c, 0, none⟩)), eqF (.int .i64 (rsum R1 : Int)), eqF (.pointer (some ⟨b, 0, none⟩)), eqF (.int .i64 (rsum R1 : Int)), eqF (.bool false), eqF (.bool false)] (by kernel_rfl) ⟨?_, ?_, ?_, ?_, ?_, ?_, ?_, ?_, ?_, ?_, ?_, ?_, ?_, ?_, ?_, trivial⟩ ⟨trivial, trivial, trivial, trivial, trivial, trivial, trivial, trivial, trivial, fun _ _ h => h, fun _ _ h => h, fun _ _ h => h, fun _ _ h => h, fun _ _ h => h, trivial, trivial⟩ ?_
          · intro ρ wx hρ hbx hl
            have e5 : ρ (.tmp 5) = .pointer (some ⟨c, 0, none⟩) := hρ.tmp 5 (by decide +kernel)
            refine y_val (v := .pointer (some ⟨c, 0, none⟩)) ?_ rfl
            simp [execOp, go_sem, e5]
          · intro ρ wx hρ hbx hl
            have e110 : ρ (.tmp 110) = .pointer (some ⟨c, 0, none⟩) := hl 0 (by decide +kernel) 110 rfl
            refine y_call (f := 10) (args := #[.pointer (some ⟨c, 0, none⟩)]) (by simp [execOp, resolve, invoke, hρ.func, go_sem, e110]) ?_
            refine (len_any wx w.heap.size c room (R1.map entR) (HS.out.fresh hbx).ca).mono ?_
            rintro e w6 ⟨rfl, rfl⟩
            exact ⟨_, rfl, by rw [List.length_map]; rfl, Below.refl _ _⟩
          · intro ρ wx hρ hbx hl
            have e6 : ρ (.tmp 6) = .pointer (some ⟨b, 0, none⟩) := hρ.tmp 6 (by decide +kernel)
            refine y_val (v := .pointer (some ⟨b, 0, none⟩)) ?_ rfl
            simp [execOp, go_sem, e6]
          · intro ρ wx hρ hbx hl
            have e112 : ρ (.tmp 112) = .pointer (some ⟨b, 0, none⟩) := hl 2 (by decide +kernel) 112 rfl
            refine y_val (v := .pointer (some ⟨b, 0, none⟩)) ?_ rfl
            simp [execOp, go_sem, e112]
          · intro ρ wx hρ hbx hl
            have e113 : ρ (.tmp 113) = .pointer (some ⟨b, 0, none⟩) := hl 3 (by decide +kernel) 113 rfl
            refine y_val (v := .pointer (some ⟨b, 1, none⟩)) ?_ rfl
            simp [execOp, go_sem, e113]
          · intro ρ wx hρ hbx hl
            have e114 : ρ (.tmp 114) = .pointer (some ⟨b, 1, none⟩) := hl 4 (by decide +kernel) 114 rfl
            have kk := (hbx.cell (hblt)).trans d1
            refine y_val (v := .slice ra R1.length rcap) ?_ rfl
            simp [execOp, go_sem, e114, kk]
          · intro ρ wx hρ hbx hl
            have e115 : ρ (.tmp 115) = .slice ra R1.length rcap := hl 5 (by decide +kernel) 115 rfl
            refine y_val (v := .int .i64 (R1.length : Int)) ?_ rfl
            simp [go_sem, e115]
          · intro ρ wx hρ hbx hl
            have e111 : ρ (.tmp 111) = .int .i64 (R1.length : Int) := hl 1 (by decide +kernel) 111 rfl
            have e116 : ρ (.tmp 116) = .int .i64 (R1.length : Int) := hl 6 (by decide +kernel) 116 rfl
            refine y_val (v := .bool false) ?_ rfl
            simp [execOp, go_sem, e111, e116]
          · intro ρ wx hρ hbx hl
            have e117 : ρ (.tmp 117) = .bool false := hl 7 (by decide +kernel) 117 rfl
            refine y_val (v := .bool false) ?_ rfl
            simp [execOp, go_sem, e117]
          · intro ρ wx hρ hbx hl
            have e5 : ρ (.tmp 5) = .pointer (some ⟨c, 0, none⟩) := hρ.tmp 5 (by decide +kernel)
            refine y_val (v := .pointer (some ⟨c, 0, none⟩)) ?_ rfl
            simp [execOp, go_sem, e5]
          · intro ρ wx hρ hbx hl
            have e119 : ρ (.tmp 119) = .pointer (some ⟨c, 0, none⟩) := hl 9 (by decide +kernel) 119 rfl
            refine y_call (f := 11) (args := #[.pointer (some ⟨c, 0, none⟩)]) (by simp [execOp, resolve, invoke, hρ.func, go_sem, e119]) ?_
            refine (used_any wx w.heap.size c room (R1.map entR) (HS.out.fresh hbx).ca).mono ?_
            rintro e w6 ⟨rfl, rfl⟩
            exact ⟨_, rfl, by rw [used_ent]; rfl, Below.refl _ _⟩
          · intro ρ wx hρ hbx hl
            have e6 : ρ (.tmp 6) = .pointer (some ⟨b, 0, none⟩) := hρ.tmp 6 (by decide +kernel)
            refine y_val (v := .pointer (some ⟨b, 0, none⟩)) ?_ rfl
            simp [execOp, go_sem, e6]
          · intro ρ wx hρ hbx hl
            have e121 : ρ (.tmp 121) = .pointer (some ⟨b, 0, none⟩) := hl 11 (by decide +kernel) 121 rfl
            refine y_call (f := 19) (args := #[.pointer (some ⟨b, 0, none⟩)]) (by simp [execOp, resolve, invoke, hρ.func, go_sem, e121]) ?_
            refine (rused_any wx w.heap.size b room R1 (HS.out.fresh hbx).rc (HS.out.keys HA.out hfew _ (HS.out.below.trans (hbx.mono HS.out.below.size))) hsum1).mono ?_
            rintro e w6 ⟨rfl, b6⟩
            exact ⟨_, rfl, rfl, b6⟩
          · intro ρ wx hρ hbx hl
            have e120 : ρ (.tmp 120) = .int .i64 (rsum R1 : Int) := hl 10 (by decide +kernel) 120 rfl
            have e122 : ρ (.tmp 122) = .int .i64 (rsum R1 : Int) := hl 12 (by decide +kernel) 122 rfl
            refine y_val (v := .bool false) ?_ rfl
            simp [execOp, go_sem, e120, e122]
          · intro ρ wx hρ hbx hl
            have e118 : ρ (.tmp 118) = .bool false := hl 8 (by decide +kernel) 118 rfl
            have e123 : ρ (.tmp 123) = .bool false := hl 13 (by decide +kernel) 123 rfl
            refine y_val (v := .bool false) ?_ rfl
            simp [execOp, go_sem, e118, e123]
          intro aa wz hdef hsz hlk hbz hf
          have ha := act_of_like hdef hsz hlk [110, 111, 112, 113, 114, 115, 116, 117, 118, 119, 120, 121, 122, 123, 124] 126 rfl (by decide +kernel)
          have e110 : aa.tmps.getD 110 undef = .pointer (some ⟨c, 0, none⟩) := hf 0 _ 110 rfl rfl
          have e111 : aa.tmps.getD 111 undef = .int .i64 (R1.length : Int) := hf 1 _ 111 rfl rfl
          have e112 : aa.tmps.getD 112 undef = .pointer (some ⟨b, 0, none⟩) := hf 2 _ 112 rfl rfl
          have e113 : aa.tmps.getD 113 undef = .pointer (some ⟨b, 0, none⟩) := hf 3 _ 113 rfl rfl
          have e114 : aa.tmps.getD 114 undef = .pointer (some ⟨b, 1, none⟩) := hf 4 _ 114 rfl rfl
          have e115 : aa.tmps.getD 115 undef = .slice ra R1.length rcap := hf 5 _ 115 rfl rfl
          have e116 : aa.tmps.getD 116 undef = .int .i64 (R1.length : Int) := hf 6 _ 116 rfl rfl
          have e117 : aa.tmps.getD 117 undef = .bool false := hf 7 _ 117 rfl rfl
          have e118 : aa.tmps.getD 118 undef = .bool false := hf 8 _ 118 rfl rfl
          have e119 : aa.tmps.getD 119 undef = .pointer (some ⟨c, 0, none⟩) := hf 9 _ 119 rfl rfl
          have e120 : aa.tmps.getD 120 undef = .int .i64 (rsum R1 : Int) := hf 10 _ 120 rfl rfl
          have e121 : aa.tmps.getD 121 undef = .pointer (some ⟨b, 0, none⟩) := hf 11 _ 121 rfl rfl
          have e122 : aa.tmps.getD 122 undef = .int .i64 (rsum R1 : Int) := hf 12 _ 122 rfl rfl
          have e123 : aa.tmps.getD 123 undef = .bool false := hf 13 _ 123 rfl rfl
          have e124 : aa.tmps.getD 124 undef = .bool false := hf 14 _ 124 rfl rfl
          simp only [putAll, List.foldl_cons, List.foldl_nil, e110, e111, e112, e113, e114, e115, e116, e117, e118, e119, e120, e121, e122, e123, e124] at ha
          simp [Act.put] at ha
          subst ha
          clear hdef hsz hlk hf e110 e111 e112 e113 e114 e115 e116 e117 e118 e119 e120 e121 e122 e123 e124
          have HS2 := Lib.hid (HS.out.fresh hbz)
          clear hbz d1 hblt
          go_wp2
          exact ⟨⟨k + 1, G1, R1, by go_num, by rw [HL.out]; omega, HS2.out⟩, by simp [intOf]; omega⟩
    · obtain rfl : k = len := by omega
      have HBl := Lib.hid hps.below
      clear hps
      go_wp2
      go_ret
      exact ⟨rfl, HBl.out⟩
end Go.Proofs.Ytdooedlapoknbaa
