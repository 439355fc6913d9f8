/- DiskFuse: a fuse lets so many acts through. -/
import Derived.Test.YtbhapbioibhalaaDiskFixed
namespace Go.Proofs.Ytbhapbioibhalaa
open Go Go.RowKit Go.Maps

def ones (k : Nat) : List UInt8 := List.replicate k 1
theorem ones_len (k : Nat) : (ones k).length = k := List.length_replicate
theorem ones_snoc (k : Nat) : ones k ++ [1] = ones (k + 1) := by
  unfold ones
  rw [List.replicate_succ']

/-- A disk with the one file a. -/
def FuSt (w1 wr : World) (D g : Nat) (T : Dk) (z : Int) (b : Bool) (k : Nat) : Prop :=
  DAt wr w1.heap.size D T ∧ St T [(aB, g)] [] [.add aB g] 1000 z b 1 ∧ T.fl g = ⟨ones k, 0⟩ ∧ Below w1.heap.size w1 wr
def Fu1 (w1 : World) (D g k : Nat) (iv : Value) (wr : World) : Prop := ∃ (i : Nat) (T : Dk), iv = .int .i64 (i : Int) ∧ i ≤ k ∧ FuSt w1 wr D g T ((k : Int) - i) false i
def Fu2 (w1 : World) (D g k m : Nat) (jv : Value) (wr : World) : Prop := ∃ (j : Nat) (T : Dk) (b : Bool), jv = .int .u8 (j : Int) ∧ j ≤ m ∧ FuSt w1 wr D g T 0 b k ∧ (b = true ∨ j = 0)

def CrashP (W : World) (B d : Nat) (S : Dk) (keep : List UInt8) (e : Ending) (W' : World) : Prop := e = .returned (.tuple #[]) ∧ Touch W W' (S.mine d) ∧ ∃ T, CrashS S keep T ∧ DAt W' B d T

theorem fo_a (g : Nat) : fileOf [(aB, g)] aB = some g := by simp [fileOf]
theorem fo_b (g : Nat) : fileOf [(aB, g)] bB = none := by
  have h : ¬ aB = bB := by decide
  simp [fileOf, h]
theorem sum_a {fl : Nat → Fl} {g k s : Nat} (h : fl g = ⟨ones k, s⟩) : sumD fl [(aB, g)] = k := by
  unfold sumD
  simp [h, ones_len]

/-- An append of one byte. -/
def App1Post (z : Int) (E : Dk → World → Prop) (e : Ending) (W' : World) : Prop := e = .returned (.int .i64 z) ∧ ∃ T, E T W'

theorem one_lit (w : World) : Reads (w.alloc (.cells #[.int .u8 1] 5)) 1 (.slice (some ⟨w.heap.size, 0, none⟩) 1 1) 1 (bcells [1]) := lit_reads (cs := bcells [1]) (size := 1) (heap_alloc_new w _) rfl (by decide)

variable {w1 wr : World} {D g : Nat} {T : Dk} {z : Int} {b : Bool} {k : Nat}

theorem FuSt.below (h : FuSt w1 wr D g T z b k) {w : World} (hb : Below wr.heap.size wr w) : FuSt w1 w D g T z b k := ⟨h.1.below hb, h.2.1, h.2.2.1, h.2.2.2.trans (hb.mono h.2.2.2.size)⟩
theorem FuSt.touch (h : FuSt w1 wr D g T z b k) {w : World} (t : Touch wr w (T.mine D)) : Below w1.heap.size w1 w := h.2.2.2.trans (t.below h.2.2.2.size (fun x hx => (h.1.lt x hx).2))

/-- While the fuse lets it. -/
theorem app_ok (h : FuSt w1 wr D g T z false k) (hz : 0 < z ∨ z = -1) (hk : k < 1000) :
    Calls Try.prog 21 #[.pointer (some ⟨D, 0, none⟩), .string aB, .slice (some ⟨wr.heap.size, 0, none⟩) 1 1] (wr.alloc (.cells #[.int .u8 1] 5)) (App1Post 0 fun T' w' => FuSt w1 w' D g T' (dec z) false (k + 1)) := by
  have bA := (Below.refl wr.heap.size wr).alloc (Nat.le_refl _) (.cells #[.int .u8 1] 5)
  have hA := h.below bA
  have he : appendE T aB ([1] : List UInt8).length = 0 := by
    rw [h.2.1.appendE aB_ok (fo_a g), sum_a h.2.2.1, if_neg (by show ¬ 1000 < k + 1; omega), if_neg (by omega)]
  refine (append_any hA.1 aB (by decide) (by rw [h.2.1.dir]; simp) _ [1] (one_lit wr) (by decide) (fun x hx e => by
    have h1 := (h.1.lt x e).1
    simp [Value.ownBlock] at hx
    omega)).mono fun e w' ⟨h1, h2, T', h3, h4⟩ => ?_
  rw [he] at h1 h3
  obtain ⟨s1, f1⟩ := (h.2.1.filed aB_ok (fo_a g) h3).2.1 rfl (by omega)
  exact ⟨h1, T', h4, s1, by rw [f1, updF_same, h.2.2.1]; show (⟨ones k ++ [1], 0⟩ : Fl) = _; rw [ones_snoc], hA.touch h2⟩

/-- At the fuse's end. -/
theorem app_end (h : FuSt w1 wr D g T 0 b k) (hk : k < 1000) :
    Calls Try.prog 21 #[.pointer (some ⟨D, 0, none⟩), .string aB, .slice (some ⟨wr.heap.size, 0, none⟩) 1 1] (wr.alloc (.cells #[.int .u8 1] 5)) (App1Post 6 fun T' w' => FuSt w1 w' D g T' 0 true k) := by
  have bA := (Below.refl wr.heap.size wr).alloc (Nat.le_refl _) (.cells #[.int .u8 1] 5)
  have hA := h.below bA
  have hap := append_any hA.1 aB (by decide) (by rw [h.2.1.dir]; simp) _ [1] (one_lit wr) (by decide) (fun x hx e => by
    have h1 := (h.1.lt x e).1
    simp [Value.ownBlock] at hx
    omega)
  cases b with
  | false =>
    have he : appendE T aB ([1] : List UInt8).length = 6 := by
      rw [h.2.1.appendE aB_ok (fo_a g), sum_a h.2.2.1, if_neg (by show ¬ 1000 < k + 1; omega), if_pos rfl]
    refine hap.mono fun e w' ⟨h1, h2, T', h3, h4⟩ => ?_
    rw [he] at h1 h3
    obtain ⟨s1, f1⟩ := (h.2.1.filed aB_ok (fo_a g) h3).2.2 rfl rfl
    exact ⟨h1, T', h4, s1, by rw [f1]; exact h.2.2.1, hA.touch h2⟩
  | true =>
    have he : appendE T aB ([1] : List UInt8).length = 6 := h.2.1.appendDown aB _
    refine hap.mono fun e w' ⟨h1, h2, T', h3, h4⟩ => ?_
    rw [he] at h1 h3
    have := h.2.1.filedDown h3
    subst this
    exact ⟨h1, T', h4, h.2.1, h.2.2.1, hA.touch h2⟩

/-- A name that isn't there. -/
theorem app_none (h : FuSt w1 wr D g T z false k) :
    Calls Try.prog 21 #[.pointer (some ⟨D, 0, none⟩), .string bB, .slice (some ⟨wr.heap.size, 0, none⟩) 1 1] (wr.alloc (.cells #[.int .u8 1] 5)) (App1Post 4 fun T' w' => FuSt w1 w' D g T' z false k) := by
  have bA := (Below.refl wr.heap.size wr).alloc (Nat.le_refl _) (.cells #[.int .u8 1] 5)
  have hA := h.below bA
  have hfd : findR T bB = (none, 4) := by rw [h.2.1.find bB_ok, fo_b]
  have he : appendE T bB ([1] : List UInt8).length = 4 := by unfold appendE; rw [hfd]; rfl
  refine (append_any hA.1 bB (by decide) (by rw [h.2.1.dir]; simp) _ [1] (one_lit wr) (by decide) (fun x hx e => by
    have h1 := (h.1.lt x e).1
    simp [Value.ownBlock] at hx
    omega)).mono fun e w' ⟨h1, h2, T', h3, h4⟩ => ?_
  rw [he] at h1 h3
  have hT : T' = T := by
    rcases h3 with ⟨k1, _⟩ | ⟨g', hg', _⟩
    · exact k1
    · rw [hfd] at hg'
      cases hg'
  subst hT
  exact ⟨h1, T', h4, h.2.1, h.2.2.1, hA.touch h2⟩

/-- Behind the crash. -/
theorem app_fin {s : Dir} {a : List DAct} (h : DAt wr w1.heap.size D T) (st : St T [(aB, g)] s a 1000 (-1) false 1) (hl : (T.fl g).data.length < 1000) (hb : Below w1.heap.size w1 wr) :
    Calls Try.prog 21 #[.pointer (some ⟨D, 0, none⟩), .string aB, .slice (some ⟨wr.heap.size, 0, none⟩) 1 1] (wr.alloc (.cells #[.int .u8 1] 5)) (App1Post 0 fun _ w' => Below w1.heap.size w1 w') := by
  have bA := (Below.refl wr.heap.size wr).alloc (Nat.le_refl _) (.cells #[.int .u8 1] 5)
  have he : appendE T aB ([1] : List UInt8).length = 0 := by
    have hs : sumD T.fl [(aB, g)] = (T.fl g).data.length := by unfold sumD; simp
    rw [st.appendE aB_ok (fo_a g), hs, if_neg (by show ¬ 1000 < _ + 1; omega), if_neg (by decide)]
  have hap := append_any (h.below bA) aB (by decide) (by rw [st.dir]; simp) _ [1] (one_lit wr) (by decide) (fun x hx e => by
    have h1 := (h.lt x e).1
    simp [Value.ownBlock] at hx
    omega)
  refine hap.mono fun e w' ⟨h1, h2, T', h3, h4⟩ => ?_
  rw [he] at h1
  exact ⟨h1, T', (hb.trans (bA.mono hb.size)).trans (h2.below (Nat.le_trans hb.size bA.size) (fun x hx => (h.lt x hx).2))⟩

set_option maxRecDepth 100000 in
set_option maxHeartbeats 8000000 in
theorem diskFuse_walk (W : World) (n more : Int) (hn : 0 ≤ n ∧ n ≤ 255) (hm : 0 ≤ more ∧ more ≤ 255) : Calls Try.prog 5 #[.int .u8 n, .int .u8 more] W (SaysTrue W) := by
  have H0 := Lib.hid (fixed_any W)
  obtain ⟨k, hk⟩ : ∃ k : Nat, n % 40 = (k : Int) := ⟨(n % 40).toNat, by omega⟩
  obtain ⟨q, hq⟩ : ∃ q : Nat, more % 5 = (q : Int) := ⟨(more % 5).toNat, by omega⟩
  have hk40 : k < 40 := by omega
  have hq5 : q < 5 := by omega
  have hw8 : IntKind.i64.wrap (k : Int) = (k : Int) := by rw [IntKind.wrap_i64]; omega
  go_enter Try.func5, Try.ntmps5
  go_wp2_with (go_at_call 8; go_must (refine H0.out.mono ?_))
  rintro e w1 ⟨rfl, b1⟩
  have HB1 := Lib.hid b1
  have HN := Lib.hid (new_any w1 1000)
  clear b1
  go_wp2_with (go_at_call 10; go_must (refine HN.out.mono ?_))
  rintro e w2 ⟨rfl, b2, d2⟩
  generalize w1.heap.size + 2 = D at *
  have s2 := st_new w1.heap.size (roomOf 1000)
  generalize dk0 w1.heap.size (roomOf 1000) = S2 at *
  have s2 : St S2 [] [] [] 1000 (-1) false 0 := s2
  have z1 : (-1 : Int) ≠ 0 := by decide
  have HC := Lib.hid (create_any d2 aB (by decide) (by rw [s2.acts]; simp))
  rw [s2.create z1 aB_ok rfl (by decide)] at HC
  have HB2 := Lib.hid b2
  have HD2 := Lib.hid d2
  have HS2 := Lib.hid s2
  clear b2 d2 s2 HN
  go_wp2_with (first | (go_at_call 20; go_must (refine HC.out.mono ?_)))
  rintro e w3 ⟨rfl, t3, T3, hc3, d3⟩
  obtain ⟨g, _, s3, f3⟩ := HS2.out.created z1 aB_ok rfl (by decide) hc3
  have b3 : Below w1.heap.size w1 w3 := HB2.out.trans (t3.below HB2.out.size (fun x hx => (HD2.out.lt x hx).2))
  have HFs := Lib.hid (fuse_any d3 (k : Int) (by omega))
  have HS3 := Lib.hid (show St T3 [(aB, g)] [] [.add aB g] 1000 (-1) false 1 from s3)
  have HF3 := Lib.hid (show T3.fl g = ⟨ones 0, 0⟩ by rw [f3, updF_same]; rfl)
  have HB3 := Lib.hid b3
  have HD3 := Lib.hid d3
  clear t3 hc3 d3 s3 f3 b3 HC HS2 HD2 HB2
  go_wp2_with (go_at_call 25; go_must (refine HFs.out.mono ?_))
  rintro e w4 ⟨rfl, t4, d4⟩
  have hs4 : FuSt w1 w4 D g { T3 with fuse := (k : Int) } ((k : Int) - (0 : Nat)) false 0 := ⟨d4, by simpa using HS3.out.fused (k : Int), HF3.out, HB3.out.trans (t4.below HB3.out.size (fun x hx => (HD3.out.lt x hx).2))⟩
  have HS4 := Lib.hid hs4
  clear t4 d4 hs4 HFs
  go_wp2_with fail
  go_loopw [22] (fun iv wr => Fu1 w1 D g k iv wr) (fun iv _ => k - (intOf iv).toNat)
  case atStart => exact ⟨0, _, rfl, Nat.zero_le _, HS4.out⟩
  case round =>
    rename World => wr
    obtain ⟨i, T, rfl, hi, hst⟩ := hrel
    have HSt := Lib.hid hst
    clear hst
    by_cases hlt : i < k
    · have hltI : (i : Int) < k := by omega
      have HA := Lib.hid (app_ok HSt.out (by omega) (by omega))
      go_wp2_with (go_at_call 21; go_must (refine HA.out.mono ?_))
      rintro e w5 ⟨rfl, T', h5⟩
      have hd : dec ((k : Int) - i) = (k : Int) - ((i + 1 : Nat) : Int) := by unfold dec; rw [if_pos (by omega)]; omega
      rw [hd] at h5
      have H5 := Lib.hid h5
      clear h5 hd
      go_wp2
      exact ⟨⟨i + 1, T', by go_num, hlt, H5.out⟩, by simp [intOf]; omega⟩
    · obtain rfl : i = k := by omega
      have hltI : ¬ (i : Int) < i := by omega
      have hst := HSt.out
      rw [show (i : Int) - i = 0 by omega] at hst
      have HU := Lib.hid (used_any hst.1 (by rw [hst.2.1.dir]; simp))
      rw [hst.2.1.used, sum_a hst.2.2.1] at HU
      have HS5 := Lib.hid hst
      clear hst HSt HS4 HS3 HF3 HB3 HD3
      go_wp2_with (go_at_call 13; go_must (refine HU.out.mono ?_))
      rintro e w5 ⟨rfl, b5⟩
      have h5 := HS5.out.below b5
      have HA := Lib.hid (app_none h5)
      have hz9 : ((i : Int) != i) = false := by simp
      clear b5 h5 HU
      go_wp2_with (go_at_call 21; go_must (refine HA.out.mono ?_))
      rintro e w6 ⟨rfl, T6, h6⟩
      have H6 := Lib.hid h6
      obtain ⟨m, hm⟩ : ∃ m, 1 + q = m := ⟨_, rfl⟩
      have hw9 : IntKind.u8.wrap (1 + (q : Int)) = (m : Int) := by
        rw [← hm]
        have : q = 0 ∨ q = 1 ∨ q = 2 ∨ q = 3 ∨ q = 4 := by omega
        rcases this with rfl | rfl | rfl | rfl | rfl <;> decide
      have hm1 : 1 ≤ m ∧ m ≤ 5 := by omega
      clear h6 HA
      go_wp2_with fail
      simp only [hq]
      clear hq
      go_loopw [42] (fun jv wr => Fu2 w1 D g i m jv wr) (fun jv _ => m - (intOf jv).toNat)
      case atStart => exact ⟨0, T6, false, rfl, Nat.zero_le _, H6.out, .inr rfl⟩
      case round =>
        rename World => wr2
        obtain ⟨j, T, b, rfl, hj, hst, hbj⟩ := hrel
        have HSt := Lib.hid hst
        clear hst
        by_cases hlt2 : j < m
        · have hltJ : (j : Int) < m := by omega
          have hwj : IntKind.u8.wrap ((j : Int) + 1) = ((j + 1 : Nat) : Int) := by
            have : j = 0 ∨ j = 1 ∨ j = 2 ∨ j = 3 ∨ j = 4 := by omega
            rcases this with rfl | rfl | rfl | rfl | rfl <;> decide
          have HA := Lib.hid (app_end HSt.out (by omega))
          clear hbj
          go_wp2_with (go_at_call 21; go_must (refine HA.out.mono ?_))
          rintro e w7 ⟨rfl, T7, h7⟩
          have HU := Lib.hid (used_any h7.1 (by rw [h7.2.1.dir]; simp))
          rw [h7.2.1.usedDown] at HU
          have HL := Lib.hid (fun w (hb : Below w7.heap.size w7 w) => list_any (h7.below hb).1 (Nat.le_trans (h7.below hb).2.1.gs (by decide)))
          rw [h7.2.1.listDown] at HL
          have H7 := Lib.hid h7
          clear h7 HA
          go_wp2_with (first | (go_at_call 13; go_must (refine HU.out.mono ?_); rintro e w8 ⟨rfl, b8⟩) | (go_at_call 16; go_must (refine (HL.out _ b8).mono ?_); rintro e w9 ⟨v9, rfl, o9, b9⟩; obtain ⟨a9, c9, hv9, _, _⟩ := (ownsRow.reads o9).le; subst hv9))
          exact ⟨⟨j + 1, T7, true, by simp, hlt2, H7.out.below (b8.trans (b9.mono b8.size)), .inl rfl⟩, by simp [intOf]; omega⟩
        · obtain rfl : j = m := by omega
          have hltJ : ¬ (j : Int) < j := by omega
          have bA := (Below.refl wr2.heap.size wr2).alloc (Nat.le_refl _) (.cells #[.int .u8 1, .int .u8 255] 5)
          have hA := HSt.out.below bA
          have HC := Lib.hid ((crash_any hA.1 (.slice (some ⟨wr2.heap.size, 0, none⟩) 2 2) [1, 255] (lit_reads (cs := bcells [1, 255]) (size := 1) (heap_alloc_new wr2 _) rfl (by decide)) (Nat.le_trans hA.2.1.gs (by decide)) (by rw [hA.2.1.acts]; simp) (fun x hx e => by
            have h1 := (HSt.out.1.lt x e).1
            simp [Value.ownBlock] at hx
            omega)).mono (R' := CrashP _ w1.heap.size D T [1, 255]) fun _ _ h => h)
          have HA := Lib.hid hA
          clear bA hA hbj
          go_wp2_with (go_at_call 24; go_must (refine HC.out.mono ?_))
          rintro e w7 ⟨rfl, t7, T7, hc7, d7⟩
          obtain ⟨s7, f7⟩ := HA.out.2.1.crashed hc7
          have s7 : St T7 [(aB, g)] [(aB, g)] [] 1000 (-1) false 1 := s7
          obtain ⟨r, hr⟩ : ∃ r, 255 % (i + 1) = r := ⟨_, rfl⟩
          have hri : r ≤ i := by rw [← hr]; exact Nat.le_of_lt_succ (Nat.mod_lt _ (Nat.succ_pos _))
          have f7 : T7.fl g = ⟨(ones i).take r, r⟩ := by
            rw [f7]
            show cutFl T.fl g (nextE [255] ((T.fl g).data.length - (T.fl g).safe)) g = _
            unfold cutFl
            rw [updF_same, HSt.out.2.2.1]
            show (⟨(ones i).take (0 + 255 % ((ones i).length - 0 + 1)), 0 + 255 % ((ones i).length - 0 + 1)⟩ : Fl) = _
            rw [ones_len, Nat.sub_zero, Nat.zero_add, hr]
          have hlen : ((ones i).take r).length = r := by rw [List.length_take, ones_len]; omega
          have b7 := HA.out.touch t7
          have HR := Lib.hid (read_any d7 aB (by decide))
          have hfd := s7.found aB_ok (fo_a g)
          have HD7 := Lib.hid d7
          have HS7 := Lib.hid s7
          have HF7 := Lib.hid f7
          have HB7 := Lib.hid b7
          have HFd := Lib.hid hfd
          have HLen := Lib.hid hlen
          clear t7 hc7 d7 s7 f7 b7 hfd hlen HC HA HSt
          go_wp2_with (go_at_call 18; go_must (refine HR.out.mono ?_))
          rintro e w8 ⟨v8, rfl, b8, h8⟩
          rw [HFd.out] at h8 ⊢
          have o8 : w8.ownsRow w7.heap.size 5 1 v8 r (bcells ((ones i).take r)) := by
            rcases h8 with ⟨h9, _⟩ | ⟨g', h9, h10⟩
            · cases h9
            · cases h9
              rw [HF7.out] at h10
              rw [HLen.out] at h10
              exact h10
          obtain ⟨a8, c8, hv8, _, _⟩ := (ownsRow.reads o8).le
          subst hv8
          have HAp := Lib.hid (app_fin (HD7.out.below b8) HS7.out (by rw [HF7.out]; show ((ones i).take r).length < 1000; rw [HLen.out]; omega) (HB7.out.trans (b8.mono HB7.out.size)))
          have hwk : IntKind.i64.wrap ((i : Int) + 1) = (i : Int) + 1 := by rw [IntKind.wrap_i64]; omega
          have hrem : (255 : Int) % ((i : Int) + 1) = (r : Int) := by rw [← hr]; simp
          have hn0 : ¬ ((i : Int) + 1 = 0) := by omega
          have hmin : ¬ ((i : Int) + 1 = -1) := by omega
          have hrr : ((r : Int) == r) = true := by simp
          clear o8 h8 hr HR
          go_wp2_with (go_at_call 21; go_must (refine HAp.out.mono ?_))
          rintro e w9 ⟨rfl, T9, b9⟩
          go_wp2
          go_ret
          exact ⟨rfl, HB1.out.trans (b9.mono HB1.out.size)⟩
end Go.Proofs.Ytbhapbioibhalaa
