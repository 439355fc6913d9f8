/- DiskRoom: a disk never has more bytes than its room. -/
import Derived.Test.YtbhapbioibhalaaDiskFixed
import Derived.Laws.OwnMore
namespace Go.Proofs.Ytbhapbioibhalaa
open Go Go.RowKit Go.Maps

theorem IsRow.u16 {w : World} {a : Option Addr} {len cap : Nat} {zs : List Int} (h : IsRow .u16 w a len cap zs) : ∃ l : List Int, l.length = len ∧ Reads w 1 (.slice a len cap) len (l.map (Value.int .u16)) ∧ ∀ z ∈ l, 0 ≤ z ∧ z ≤ 65535 := by
  rcases h with ⟨rfl, rfl, rfl, rfl⟩ | ⟨x, rfl, h1, h2, h3, h4, h5⟩
  · exact ⟨[], rfl, ⟨rfl, none, 0, rfl, Nat.le_refl _, Nat.zero_le _, fun j u hj => by simp at hj⟩, fun z hz => by cases hz⟩
  · refine ⟨zs.take len, by rw [List.length_take]; omega, ⟨by rw [List.length_map, List.length_take]; omega, _, cap, rfl, h1, h2, fun j u hj => ?_⟩, fun z hz => ?_⟩
    · have hj' := (List.getElem?_eq_some_iff.1 hj).1
      rw [List.length_map, List.length_take] at hj'
      have hj1 : j < len := by omega
      have hj2 : j < zs.length := by omega
      have hc := h4 j (by omega)
      obtain ⟨b, off, spot⟩ := x
      have hspot : spot = none := by
        have h0 := h4 0 (by omega)
        simpa [Addr.add] using World.cell?_spot h0
      subst hspot
      rw [Addr.add_lit] at hc
      refine ⟨b, off, rfl, World.block_lt_of_cell? _ _ hc, ?_⟩
      rw [hc]
      simp [hj1, hj2] at hj
      rw [← hj]
      simp [List.getD, hj2]
    · have hw := h5 z (List.mem_of_mem_take hz)
      simpa [Lit.wf, IntKind.min, IntKind.max, IntKind.signed, IntKind.bits] using hw

/-- A disk with the files a and b. -/
structure RmSt (w1 wr : World) (D ga gb : Nat) (T : Dk) (cap A Bn : Nat) : Prop where
  at_ : DAt wr w1.heap.size D T
  st : St T [(aB, ga), (bB, gb)] [] [.add aB ga, .add bB gb] cap (-1) false 2
  la : (T.fl ga).data.length = A
  lb : (T.fl gb).data.length = Bn
  ne : ga ≠ gb
  be : Below w1.heap.size w1 wr

theorem ab_ne : aB ≠ bB := by decide
theorem fo2_a (ga gb : Nat) : fileOf [(aB, ga), (bB, gb)] aB = some ga := by simp [fileOf]
theorem fo2_b (ga gb : Nat) : fileOf [(aB, ga), (bB, gb)] bB = some gb := by simp [fileOf, ab_ne]

variable {w1 wr : World} {D ga gb cap A Bn : Nat} {T : Dk}

theorem RmSt.sum (h : RmSt w1 wr D ga gb T cap A Bn) : sumD T.fl [(aB, ga), (bB, gb)] = A + Bn := by
  unfold sumD
  simp [h.la, h.lb]

def zeros (n : Nat) : List UInt8 := List.replicate n 0
theorem zeros_len (n : Nat) : (zeros n).length = n := List.length_replicate

def RmPost (w1 : World) (D ga gb cap A Bn n : Nat) (b : Bool) (e : Ending) (W' : World) : Prop :=
  ∃ (z : Int) (T' : Dk), e = .returned (.int .i64 z) ∧ ((A + Bn + n ≤ cap ∧ z = 0 ∧ RmSt w1 W' D ga gb T' cap (if b then A else A + n) (if b then Bn + n else Bn)) ∨ (cap < A + Bn + n ∧ z = 5 ∧ RmSt w1 W' D ga gb T' cap A Bn))

theorem room_app (h : RmSt w1 wr D ga gb T cap A Bn) (b : Bool) (n : Nat) (hn : n ≤ 3000) (wq : World) (hq : Below wr.heap.size wr wq) (v : Value) (hr : Reads wq 1 v n (bcells (zeros n))) (hv : ∀ x, v.ownBlock = some x → wr.heap.size ≤ x) :
    Calls Try.prog 21 #[.pointer (some ⟨D, 0, none⟩), .string (if b then bB else aB), v] wq (RmPost w1 D ga gb cap A Bn n b) := by
  have hA := h.at_.below hq
  have hok : nameOk (if b then bB else aB) = true := by cases b <;> decide
  have hfo : fileOf [(aB, ga), (bB, gb)] (if b then bB else aB) = some (if b then gb else ga) := by
    cases b
    · exact fo2_a ga gb
    · exact fo2_b ga gb
  have hns : (if b then bB else aB).size ≤ 1000000000 := by cases b <;> decide
  generalize (if b then bB else aB) = nm at *
  have hap := append_any hA nm hns (by rw [h.st.dir]; simp) v (zeros n) (by rw [zeros_len]; exact hr) (by rw [zeros_len]; omega) (fun x hx e => by
    have h1 := (h.at_.lt x e).1
    have := hv x hx
    omega)
  have he := h.st.appendE hok hfo (zeros n).length
  rw [h.sum, zeros_len] at he
  rw [zeros_len] at hap
  refine hap.mono fun e w' ⟨h1, h2, T', h3, h4⟩ => ?_
  have hbe : Below w1.heap.size w1 w' := (h.be.trans (hq.mono h.be.size)).trans (h2.below (Nat.le_trans h.be.size hq.size) (fun x hx => (h.at_.lt x hx).2))
  by_cases hc : cap < A + Bn + n
  · rw [if_pos hc] at he
    rw [he] at h1 h3
    have hT := (h.st.filed hok hfo h3).1 ⟨by decide, by decide⟩
    subst hT
    exact ⟨5, T', h1, .inr ⟨hc, rfl, h4, h.st, h.la, h.lb, h.ne, hbe⟩⟩
  · rw [if_neg hc, if_neg (show ¬ (-1 : Int) = 0 by decide)] at he
    rw [he] at h1 h3
    obtain ⟨s1, f1⟩ := (h.st.filed hok hfo h3).2.1 rfl (by decide)
    refine ⟨0, T', h1, .inl ⟨by omega, rfl, h4, s1, ?_, ?_, h.ne, hbe⟩⟩
    · rw [f1]
      cases b
      · show (updF T.fl ga _ ga).data.length = A + n
        rw [updF_same]
        show ((T.fl ga).data ++ zeros n).length = _
        rw [List.length_append, zeros_len, h.la]
      · show (updF T.fl gb _ ga).data.length = A
        rw [updF_other _ _ h.ne]
        exact h.la
    · rw [f1]
      cases b
      · show (updF T.fl ga _ gb).data.length = Bn
        rw [updF_other _ _ h.ne.symm]
        exact h.lb
      · show (updF T.fl gb _ gb).data.length = Bn + n
        rw [updF_same]
        show ((T.fl gb).data ++ zeros n).length = _
        rw [List.length_append, zeros_len, h.lb]

theorem put_ab (ga gb : Nat) : putD (putD [] aB ga) bB gb = [(aB, ga), (bB, gb)] := by
  have h1 : bl bB aB = false := by decide
  simp [putD, h1, ab_ne]

def Rm1 (w1 : World) (D ga gb C len : Nat) (sv iv : Value) (wr : World) : Prop :=
  ∃ (i A Bn : Nat) (T : Dk), sv = .int .i64 ((A + Bn : Nat) : Int) ∧ iv = .int .i64 (i : Int) ∧ i ≤ len ∧ A + Bn ≤ C ∧ RmSt w1 wr D ga gb T C A Bn

theorem made_zeros (n : Nat) : (madeCells #[Value.int IntKind.u8 0] n).toList = bcells (zeros n) := by
  rw [toList_madeCells_one]
  simp [bcells, zeros]

set_option maxRecDepth 100000 in
set_option maxHeartbeats 8000000 in
theorem diskRoom_walk (W : World) (c : Int) (hc : 0 ≤ c ∧ c ≤ 65535) (a : Option Addr) (len cp : Nat) (l : List Int) (hl : l.length = len) (hr : Reads W 1 (.slice a len cp) len (l.map (Value.int .u16))) (hz : ∀ z ∈ l, 0 ≤ z ∧ z ≤ 65535) :
    Calls Try.prog 6 #[.int .u16 c, .slice a len cp] W (SaysTrue W) := by
  obtain ⟨i0, hi, hz0, hz1, hz2⟩ := info_parts info8
  have H0 := Lib.hid (fixed_any W)
  obtain ⟨C, rfl⟩ : ∃ C : Nat, c = (C : Int) := ⟨c.toNat, by omega⟩
  have hC : C ≤ 65535 := by omega
  have hwC : IntKind.i64.wrap (C : Int) = (C : Int) := by rw [IntKind.wrap_i64]; omega
  have hrC : roomOf (C : Int) = C := by unfold roomOf; omega
  have HL := Lib.hid hl
  have HR := Lib.hid hr
  have HZ := Lib.hid hz
  obtain ⟨_, _, hve, hc1, hc2⟩ := hr.le
  cases hve
  unfold maxLen at hc2
  clear hl hr hz hc
  go_enter Try.func6, Try.ntmps6
  go_wp2_with (go_at_call 8; go_must (refine H0.out.mono ?_))
  rintro e w1 ⟨rfl, b1⟩
  have HB1 := Lib.hid b1
  have HN := Lib.hid (new_any w1 (C : Int))
  clear b1
  by_cases hlen : 60 < len
  · have hlI : (60 : Int) < (len : Int) := by omega
    go_wp2
    go_ret
    exact ⟨rfl, HB1.out⟩
  have hlI : ¬ (60 : Int) < (len : Int) := by omega
  go_wp2_with (go_at_call 10; go_must (refine HN.out.mono ?_))
  rintro e w2 ⟨rfl, b2, d2⟩
  rw [hrC] at d2
  generalize w1.heap.size + 2 = D at *
  have s2 := st_new w1.heap.size C
  generalize dk0 w1.heap.size C = S2 at *
  have z1 : (-1 : Int) ≠ 0 := by decide
  have HC := Lib.hid (create_any d2 aB (by decide) (by rw [s2.acts]; simp))
  rw [s2.create z1 aB_ok rfl (by decide)] at HC
  have HB2 := Lib.hid b2
  have HD2 := Lib.hid d2
  have HS2 := Lib.hid s2
  clear b2 d2 s2 HN
  go_wp2_with (go_at_call 20; go_must (refine HC.out.mono ?_))
  rintro e w3 ⟨rfl, t3, T3, hc3, d3⟩
  obtain ⟨ga, _, s3, f3⟩ := HS2.out.created z1 aB_ok rfl (by decide) hc3
  have b3 : Below w1.heap.size w1 w3 := HB2.out.trans (t3.below HB2.out.size (fun x hx => (HD2.out.lt x hx).2))
  have s3 : St T3 (putD [] aB ga) [] [.add aB ga] C (-1) false 1 := s3
  have hno : fileOf (putD [] aB ga) bB = none := by simp [putD, fileOf, ab_ne]
  have hga : ga < w3.heap.size := (d3.lt ga (Dk.mine_g (d3.fileIn (s := aB) (by rw [s3.dir]; simp [putD, fileOf])))).1
  have HC2 := Lib.hid (create_any d3 bB (by decide) (by rw [s3.acts]; simp))
  rw [s3.create z1 bB_ok hno (by simp [putD])] at HC2
  have HB3 := Lib.hid b3
  have HD3 := Lib.hid d3
  have HS3 := Lib.hid s3
  have HF3 := Lib.hid f3
  have HNo := Lib.hid hno
  clear b3 t3 hc3 d3 s3 f3 hno HC
  go_wp2_with (go_at_call 20; go_must (refine HC2.out.mono ?_))
  rintro e w4 ⟨rfl, t4, T4, hc4, d4⟩
  obtain ⟨gb, hgb, s4, f4⟩ := HS3.out.created z1 bB_ok HNo.out (by simp [putD]) hc4
  have hne : ga ≠ gb := by omega
  have b4 : Below w1.heap.size w1 w4 := HB3.out.trans (t4.below HB3.out.size (fun x hx => (HD3.out.lt x hx).2))
  have hs4 : RmSt w1 w4 D ga gb T4 C 0 0 := ⟨d4, by rw [put_ab] at s4; exact s4, by rw [f4, updF_other _ _ hne, HF3.out, updF_same]; rfl, by rw [f4, updF_same]; rfl, hne, b4⟩
  have HS4 := Lib.hid hs4
  clear t4 hc4 d4 s4 f4 b4 hs4 HC2 HS3 HF3 HNo HD3 HB3 HS2 HD2 HB2
  go_wp2_with fail
  go_loopw [6, 32] (fun sv iv wr => Rm1 w1 D ga gb C len sv iv wr) (fun _ iv _ => len - (intOf iv).toNat)
  case atStart => exact ⟨0, 0, 0, T4, rfl, rfl, Nat.zero_le _, Nat.zero_le _, HS4.out⟩
  case round =>
    rename World => wr
    obtain ⟨i, A, Bn, T, rfl, rfl, hi', hAB, hst⟩ := hrel
    have HSt := Lib.hid hst
    have hbW : Below W.heap.size W wr := HB1.out.trans (hst.be.mono HB1.out.size)
    obtain ⟨S, hS⟩ : ∃ S, A + Bn = S := ⟨_, rfl⟩
    rw [hS] at hAB
    have HS := Lib.hid hS
    by_cases hlt : i < len
    · have hltI : (i : Int) < len := by omega
      obtain ⟨z, hzi⟩ : ∃ z, l[i]? = some z := ⟨_, List.getElem?_eq_getElem (by rw [HL.out]; exact hlt)⟩
      have hzb := HZ.out z (List.mem_of_getElem? hzi)
      obtain ⟨ab, ao, rfl, hab, k0⟩ := (HR.out.below' hbW).at (j := i) (u := .int .u16 z) (by simp [hzi])
      obtain ⟨n, hn⟩ : ∃ n : Nat, z % 3000 = (n : Int) := ⟨(z % 3000).toNat, by omega⟩
      have hn3 : n ≤ 3000 := by omega
      have hwn : IntKind.i64.wrap (n : Int) = (n : Int) := by rw [IntKind.wrap_i64]; omega
      obtain ⟨S', hS'⟩ : ∃ S', S + n = S' := ⟨_, rfl⟩
      have hwS : IntKind.i64.wrap ((S : Int) + (n : Int)) = (S' : Int) := by rw [← hS', IntKind.wrap_i64]; omega
      have HS' := Lib.hid hS'
      obtain ⟨b, hb⟩ : ∃ b, ((i : Int) % 3 == 2) = b := ⟨_, rfl⟩
      rw [hS]
      clear hst hbW hS hzi hS'
      cases b with
      | true =>
        have HAp := Lib.hid (room_app HSt.out true n hn3)
        simp only [if_true] at HAp
        go_wp2_with (at_make; go_must (refine wpList_make_full _ rfl _ _ 29 rfl wr.heap.size 5 i0 (.int .u8 0) 1 Try.underlying29 hi hz0 hz1 .i64 .i64 _ _ n rfl rfl ?_ ?_ ?_ ?_ ?_ ?_))
        · rfl
        · rfl
        · rw [hz2]; omega
        · unfold maxLen; omega
        · exact Nat.le_refl _
        intro w5 own5 gr5
        rw [made_zeros] at own5
        have b5 : Below wr.heap.size wr w5 := (Below.refl _ _).grown gr5 (Nat.le_refl _) (fun k hk => by cases hk)
        have HA5 := Lib.hid (HAp.out w5 b5 _ (ownsRow.reads own5) (fun x hx => by
          simp [Value.ownBlock] at hx
          omega))
        clear own5 gr5 b5
        go_wp2_with (go_at_call 21; go_must (refine HA5.out.mono ?_))
        rintro e w6 ⟨ze, T6, rfl, h6⟩
        rcases h6 with ⟨h7, rfl, h8⟩ | ⟨h7, rfl, h8⟩
        · simp only [if_true] at h8
          have hle : (S' : Int) ≤ (C : Int) := by have := HS.out; have := HS'.out; omega
          have HU := Lib.hid (used_any h8.at_ (by rw [h8.st.dir]; simp))
          rw [h8.st.used, h8.sum, show A + (Bn + n) = S' by have := HS.out; have := HS'.out; omega] at HU
          have hne0 : ((S' : Int) != S') = false := by simp
          have H8 := Lib.hid h8
          clear h8 HA5 HAp
          go_wp2_with (go_at_call 13; go_must (refine HU.out.mono ?_))
          rintro e w7 ⟨rfl, b7⟩
          go_wp2
          exact ⟨⟨i + 1, A, Bn + n, T6, by rw [show A + (Bn + n) = S' by have := HS.out; have := HS'.out; omega], by go_num, hlt, by have := HS.out; have := HS'.out; omega, ⟨H8.out.at_.below b7, H8.out.st, H8.out.la, H8.out.lb, H8.out.ne, H8.out.be.trans (b7.mono H8.out.be.size)⟩⟩, by simp [intOf]; omega⟩
        · have hle : ¬ (S' : Int) ≤ (C : Int) := by have := HS.out; have := HS'.out; omega
          have HU := Lib.hid (used_any h8.at_ (by rw [h8.st.dir]; simp))
          rw [h8.st.used, h8.sum, HS.out] at HU
          have hne0 : ((S : Int) != S) = false := by simp
          have H8 := Lib.hid h8
          clear h8 HA5 HAp
          go_wp2_with (go_at_call 13; go_must (refine HU.out.mono ?_))
          rintro e w7 ⟨rfl, b7⟩
          go_wp2
          exact ⟨⟨i + 1, A, Bn, T6, by rw [HS.out], by go_num, hlt, by rw [HS.out]; exact hAB, ⟨H8.out.at_.below b7, H8.out.st, H8.out.la, H8.out.lb, H8.out.ne, H8.out.be.trans (b7.mono H8.out.be.size)⟩⟩, by simp [intOf]; omega⟩
      | false =>
        have HAp := Lib.hid (room_app HSt.out false n hn3)
        simp only [Bool.false_eq_true, if_false] at HAp
        go_wp2_with (at_make; go_must (refine wpList_make_full _ rfl _ _ 29 rfl wr.heap.size 5 i0 (.int .u8 0) 1 Try.underlying29 hi hz0 hz1 .i64 .i64 _ _ n rfl rfl ?_ ?_ ?_ ?_ ?_ ?_))
        · rfl
        · rfl
        · rw [hz2]; omega
        · unfold maxLen; omega
        · exact Nat.le_refl _
        intro w5 own5 gr5
        rw [made_zeros] at own5
        have b5 : Below wr.heap.size wr w5 := (Below.refl _ _).grown gr5 (Nat.le_refl _) (fun k hk => by cases hk)
        have HA5 := Lib.hid (HAp.out w5 b5 _ (ownsRow.reads own5) (fun x hx => by
          simp [Value.ownBlock] at hx
          omega))
        clear own5 gr5 b5
        go_wp2_with (go_at_call 21; go_must (refine HA5.out.mono ?_))
        rintro e w6 ⟨ze, T6, rfl, h6⟩
        rcases h6 with ⟨h7, rfl, h8⟩ | ⟨h7, rfl, h8⟩
        · simp only [Bool.false_eq_true, if_false] at h8
          have hle : (S' : Int) ≤ (C : Int) := by have := HS.out; have := HS'.out; omega
          have HU := Lib.hid (used_any h8.at_ (by rw [h8.st.dir]; simp))
          rw [h8.st.used, h8.sum, show A + n + Bn = S' by have := HS.out; have := HS'.out; omega] at HU
          have hne0 : ((S' : Int) != S') = false := by simp
          have H8 := Lib.hid h8
          clear h8 HA5 HAp
          go_wp2_with (go_at_call 13; go_must (refine HU.out.mono ?_))
          rintro e w7 ⟨rfl, b7⟩
          go_wp2
          exact ⟨⟨i + 1, A + n, Bn, T6, by rw [show A + n + Bn = S' by have := HS.out; have := HS'.out; omega], by go_num, hlt, by have := HS.out; have := HS'.out; omega, ⟨H8.out.at_.below b7, H8.out.st, H8.out.la, H8.out.lb, H8.out.ne, H8.out.be.trans (b7.mono H8.out.be.size)⟩⟩, by simp [intOf]; omega⟩
        · have hle : ¬ (S' : Int) ≤ (C : Int) := by have := HS.out; have := HS'.out; omega
          have HU := Lib.hid (used_any h8.at_ (by rw [h8.st.dir]; simp))
          rw [h8.st.used, h8.sum, HS.out] at HU
          have hne0 : ((S : Int) != S) = false := by simp
          have H8 := Lib.hid h8
          clear h8 HA5 HAp
          go_wp2_with (go_at_call 13; go_must (refine HU.out.mono ?_))
          rintro e w7 ⟨rfl, b7⟩
          go_wp2
          exact ⟨⟨i + 1, A, Bn, T6, by rw [HS.out], by go_num, hlt, by rw [HS.out]; exact hAB, ⟨H8.out.at_.below b7, H8.out.st, H8.out.la, H8.out.lb, H8.out.ne, H8.out.be.trans (b7.mono H8.out.be.size)⟩⟩, by simp [intOf]; omega⟩
    · obtain rfl : i = len := by omega
      have hltI : ¬ (i : Int) < i := by omega
      have HRd := Lib.hid (read_any hst.at_ bB (by decide))
      have HFd := Lib.hid (hst.st.found bB_ok (fo2_b ga gb))
      have hwS : IntKind.i64.wrap ((S : Int) - (Bn : Int)) = (A : Int) := by rw [← hS, IntKind.wrap_i64]; omega
      rw [hS]
      clear hst hS
      go_wp2_with (go_at_call 18; go_must (refine HRd.out.mono ?_))
      rintro e w5 ⟨v5, rfl, b5, h5⟩
      rw [HFd.out] at h5 ⊢
      have o5 : w5.ownsRow wr.heap.size 5 1 v5 Bn (bcells (T.fl gb).data) := by
        rcases h5 with ⟨h9, _⟩ | ⟨g', h9, h10⟩
        · cases h9
        · cases h9
          rw [HSt.out.lb] at h10
          exact h10
      obtain ⟨a5, c5, hv5, _, _⟩ := (ownsRow.reads o5).le
      subst hv5
      have hRm := remove_any (HSt.out.at_.below b5) bB (by decide) (by rw [HSt.out.st.acts]; simp) (by rw [HSt.out.st.dir]; simp)
      have hr0 : removeE T bB = 0 := by unfold removeE; rw [HFd.out, if_neg (by simp), HSt.out.st.burnE0 (by decide)]
      have HRm := Lib.hid hRm
      rw [hr0] at HRm
      have HR0 := Lib.hid hr0
      have HB5 := Lib.hid (HSt.out.be.trans (b5.mono HSt.out.be.size))
      have HD5 := Lib.hid (HSt.out.at_.below b5)
      clear o5 h5 b5 hRm hr0 HRd
      go_wp2_with (go_at_call 26; go_must (refine HRm.out.mono ?_))
      rintro e w6 ⟨rfl, t6, T6, hT6, d6⟩
      rw [← HR0.out] at hT6
      obtain ⟨_, s6, f6⟩ := HSt.out.st.removed (by decide) bB_ok (fo2_b ga gb) hT6
      have hdl : delD [(aB, ga), (bB, gb)] bB = [(aB, ga)] := by simp [delD, ab_ne]
      rw [hdl] at s6
      have HU := Lib.hid (used_any d6 (by rw [s6.dir]; simp))
      have hus : sumD T6.fl [(aB, ga)] = A := by rw [f6]; unfold sumD; simp [HSt.out.la]
      rw [s6.used, hus] at HU
      have HB6 := Lib.hid (HB5.out.trans (t6.below HB5.out.size (fun x hx => (HD5.out.lt x hx).2)))
      have haa : ((A : Int) == A) = true := by simp
      clear t6 hT6 d6 s6 f6 hdl hus
      go_wp2_with (go_at_call 13; go_must (refine HU.out.mono ?_))
      rintro e w7 ⟨rfl, b7⟩
      go_wp2
      go_ret
      exact ⟨rfl, (HB1.out.trans (HB6.out.mono HB1.out.size)).trans (b7.mono (Nat.le_trans HB1.out.size HB6.out.size))⟩
end Go.Proofs.Ytbhapbioibhalaa
