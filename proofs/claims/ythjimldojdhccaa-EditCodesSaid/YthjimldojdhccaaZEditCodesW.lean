/- What is encoded is decoded: the law's walk (written by gen_editcodes.py). -/
import Derived.Test.YthjimldojdhccaaZEditRefEnc
import Derived.Test.YthjimldojdhccaaZEditRefDec
import Derived.Test.YthjimldojdhccaaZEditBack
import Derived.Test.YthjimldojdhccaaZEditSe
import Derived.Test.YthjimldojdhccaaMga
import Derived.Test.YthjimldojdhccaaZEditRight
import Derived.Test.YthjimldojdhccaaZEditFixed
import Derived.Test.YthjimldojdhccaaZEditOpen
namespace Go.Proofs.Ythjimldojdhccaa
open Go Go.RowKit Go.Lib

theorem few_lenC {e : Ed} (h : fewE e = true) : e.add.length ≤ 40 ∧ e.drop.length ≤ 40 ∧ ∀ t ∈ e.add, t.first.size + t.last.size ≤ 300 := by
  unfold fewE at h
  simp only [Bool.and_eq_true, decide_eq_true_eq] at h
  refine ⟨h.2.1, h.2.2, fun t ht => ?_⟩
  have := List.all_eq_true.1 h.1 t ht
  unfold shortT at this
  exact of_decide_eq_true this

theorem reads_sl {w : World} {a : Option Addr} {n c : Nat} {l : List UInt8} (h : Reads w 1 (.slice a n c) n (bcells l)) (hl : l ≠ []) : n = l.length ∧ Sl w.heap.size w (.slice a n c) l := by
  have hn : n = l.length := by simpa [bcells] using h.1.symm
  subst hn
  refine ⟨rfl, .inr ?_⟩
  obtain ⟨x, r, rfl⟩ := List.exists_cons_of_ne_nil hl
  obtain ⟨g, off, rfl, hg, _⟩ := h.at (j := 0) (u := .int .u8 x.toNat) (by simp [bcells])
  exact ⟨g, off, c, rfl, fun _ => hg, fun _ => hg, h⟩

theorem sl_up {B C : Nat} {w : World} {v : Value} {l : List UInt8} (h : Sl B w v l) (hB : B ≤ C) : Sl C w v l := by
  rcases h with h | ⟨b, off, cap, rfl, h1, h2, h3⟩
  · exact .inl h
  · exact .inr ⟨b, off, cap, rfl, fun hl => Nat.lt_of_lt_of_le (h1 hl) hB, h2, h3⟩

theorem enc_ne (n : Nat) : enc n ≠ [] := by
  unfold enc
  split <;> simp
theorem encB_ne (e : Ed) : encB e ≠ [] := by
  rw [encB_eq]
  have := enc_ne e.add.length
  simp [this]
theorem encB_len {e : Ed} (hr : right e = true) (h1 : e.add.length ≤ 40) (h2 : e.drop.length ≤ 40) (h3 : ∀ t ∈ e.add, t.first.size ≤ 1000 ∧ t.last.size ≤ 1000) (hf : e.floor < 18446744073709551616) (hh : e.head < 18446744073709551616) : (encB e).length ≤ 1000000 := by
  unfold right at hr
  simp only [Bool.and_eq_true] at hr
  obtain ⟨⟨⟨hlog, hnext⟩, hdrop⟩, hadd⟩ := hr
  rw [List.all_eq_true] at hdrop hadd
  have z1 : (e.add.flatMap tabB).length ≤ 2100 * e.add.length := flat_len _ (fun t ht => tabB_len (h3 t ht).1 (h3 t ht).2 (hadd t ht))
  have z2 := dflat_len _ hdrop
  obtain ⟨lg, elg, hlg⟩ := inB_nat hlog
  obtain ⟨nx, enx, hnx⟩ := inB_nat hnext
  have z0 := enc_len e.add.length (by omega)
  have z3 := enc_len e.drop.length (by omega)
  have z4 := enc_len e.floor hf
  have z5 := enc_len e.head hh
  have z6 := enc_len e.log.toNat (by omega)
  have z7 := enc_len e.next.toNat (by omega)
  rw [encB_eq]
  simp only [List.length_append]
  omega

def EncP (w : World) (l : List UInt8) (er : Int) (en : Ending) (w' : World) : Prop :=
  ∃ a n c, en = .returned (.tuple #[.slice a n c, .int .i64 er]) ∧ Reads w' 1 (.slice a n c) n (bcells l) ∧ Below w.heap.size w w'

def DecP (w : World) (xa : List Tb) (xd : List Int) (xf xh : Nat) (xl xn : Int) (nx mx : Nat) (e : Ending) (w' : World) : Prop :=
  ∃ a1 c1 a2 c2, e = .returned (.tuple #[.agg #[.slice a1 nx c1, .slice a2 mx c2, .int .u64 (xf : Int), .int .u64 (xh : Int), .int .i64 xl, .int .i64 xn], .int .i64 0]) ∧ TRows w' (.slice a1 nx c1) xa ∧ Reads w' 1 (.slice a2 mx c2) mx (ncells xd) ∧ Below w.heap.size w w'
theorem decP_of {w : World} {xa : List Tb} {xd : List Int} {xf xh : Nat} {xl xn : Int} {nx mx : Nat} (h1 : xa.length = nx) (h2 : xd.length = mx) {e : Ending} {w' : World} (h : DecPost w (⟨xa, xd, xf, xh, xl, xn⟩, 0) e w') : DecP w xa xd xf xh xl xn nx mx e w' := by
  obtain ⟨a1, n1, c1, a2, n2, c2, rfl, ht, hr, hb⟩ := h
  have e1 := (TRows.len' ht).1
  have e2 := (num_len' hr).1
  simp only at e1 e2
  rw [h1] at e1
  rw [h2] at e2
  subst e1
  subst e2
  exact ⟨a1, c1, a2, c2, rfl, ht, hr, hb⟩

set_option maxRecDepth 100000 in
set_option maxHeartbeats 4000000 in
theorem editCodes_walk (w : World) (x : Ed) (ax bx : Option Addr) (nx cx mx dx : Nat) (hx : EdCame w x ax bx nx cx mx dx) :
    Calls Try.prog 3 #[ev x ax bx nx cx mx dx] w (SaysTrue w) := by
  have hfx := fun W (hb : Below w.heap.size w W) => fewE_any W x ax bx nx cx mx dx (hx.rows.below hb) (num_len hx.drop).1 (fun t ht => ⟨(hx.ok t ht).2.2.2.1, (hx.ok t ht).2.2.2.2⟩)
  have HFx := Lib.hid hfx
  have HX := Lib.hid hx
  obtain ⟨lx1, lx2, lx3⟩ := hx.rows.len
  obtain ⟨mx1, mx2, mx3⟩ := num_len hx.drop
  have LX := Lib.hid lx1
  have MX := Lib.hid mx1
  have HEnc := Lib.hid (fun W (hb : Below w.heap.size w W) (hf : EdFit x) => show Calls _ _ _ W (EncP W (if right x then encB x else []) (erE x)) from encode_any W x ax bx nx cx mx dx (hx.rows.below hb) (hx.drop.below' hb) hf)
  have HRg := Lib.hid (fun W (hb : Below w.heap.size w W) h1 h2 => right_any W x ax bx nx cx mx dx (hx.rows.below hb) (hx.drop.below' hb) h1 h2)
  have HRe := Lib.hid (fun W (hb : Below w.heap.size w W) (hf : EdFit x) hr => refencode_any W x ax bx nx cx mx dx (hx.rows.below hb) (hx.drop.below' hb) hf hr)
  have HSe := Lib.hid (fun W a1 a2 b1 b2 c1 c2 d1 d2 h1 h2 h3 h4 => sameE_self W x a1 a2 b1 b2 nx c1 mx c2 d1 d2 h1 h2 h3 h4)
  have HRow := Lib.hid (fun W (hb : Below w.heap.size w W) => hx.rows.below hb)
  have HDrp := Lib.hid (fun W (hb : Below w.heap.size w W) => hx.drop.below' hb)
  have HBk := Lib.hid (readE_enc (x := x))
  have HLn := Lib.hid (encB_len (e := x))
  have HFit := Lib.hid (fun (h : fewE x = true) => show EdFit x from ⟨by have := (few_lenC h).1; omega, by have := (few_lenC h).2.1; omega, fun t ht => by have := (few_lenC h).2.2 t ht; omega, hx.fl, hx.hd⟩)
  have HFew := Lib.hid (few_lenC (e := x))
  have HEr := Lib.hid (show erE x = if right x then 0 else 1 from rfl)
  have HNe := Lib.hid (encB_ne x)
  obtain ⟨L, hL⟩ : ∃ L, encB x = L := ⟨_, rfl⟩
  rw [hL] at HRe HBk HLn HNe HEnc
  obtain ⟨rt, hrt⟩ : ∃ r, right x = r := ⟨_, rfl⟩
  have HRt := Lib.hid hrt
  obtain ⟨er, her⟩ : ∃ r, erE x = r := ⟨_, rfl⟩
  rw [hrt] at HRg HEr HEnc
  rw [her] at HEr HEnc
  obtain ⟨Lr, hLr⟩ : ∃ l, (if rt = true then L else []) = l := ⟨_, rfl⟩
  rw [hLr] at HEnc
  have HLr := Lib.hid hLr
  clear hLr
  obtain ⟨f2, hf2⟩ : ∃ f, fewE x = f := ⟨_, rfl⟩
  simp only [hf2] at HFx
  have HF2 := Lib.hid hf2
  clear hfx hx lx1 mx1 hL hrt her hf2
  obtain ⟨xa, xd, xf, xh, xl, xn⟩ := x
  simp only [ev] at *
  have b0 : Below w.heap.size w (w.alloc (.cells #[.slice ax nx cx, .slice bx mx dx, .int .u64 (xf : Int), .int .u64 (xh : Int), .int .i64 xl, .int .i64 xn] 26)) := (Below.refl _ _).alloc (Nat.le_refl _) _
  have HX0 := Lib.hid (heap_alloc_new w (.cells #[.slice ax nx cx, .slice bx mx dx, .int .u64 (xf : Int), .int .u64 (xh : Int), .int .i64 xl, .int .i64 xn] 26))
  have HB := Lib.hid b0
  have S0 := Lib.hid (show (w.alloc (.cells #[.slice ax nx cx, .slice bx mx dx, .int .u64 (xf : Int), .int .u64 (xh : Int), .int .i64 xl, .int .i64 xn] 26)).heap.size = w.heap.size + 1 by simp)
  clear b0
  go_enter Try.func3, Try.ntmps3
  go_wp2_with (go_at_call 6; go_must (refine (fixed_any _).mono ?_))
  rintro e w1 ⟨rfl, b1⟩
  generalize w.alloc (.cells #[.slice ax nx cx, .slice bx mx dx, .int .u64 (xf : Int), .int .u64 (xh : Int), .int .i64 xl, .int .i64 xn] 26) = W0 at *
  have q1 := (b1.block _ (by rw [S0.out]; omega)).trans HX0.out
  have hsz := b1.size
  have HB := Lib.hid (HB.out.trans (b1.mono (by rw [S0.out]; omega)))
  obtain ⟨N, hN⟩ : ∃ N, w.heap.size = N := ⟨_, rfl⟩
  have HNe2 := Lib.hid hN
  rw [hN] at q1
  rw [hN]
  have l0 : N < w1.heap.size := by rw [S0.out] at hsz; omega
  have HX1 := Lib.hid q1
  clear b1 hsz S0 HX0 hN
  have x0 := Lib.cell_of_heap HX1.out 0
  have x1 := Lib.cell_of_heap HX1.out 1
  have x2 := Lib.cell_of_heap HX1.out 2
  have x3 := Lib.cell_of_heap HX1.out 3
  have x4 := Lib.cell_of_heap HX1.out 4
  have x5 := Lib.cell_of_heap HX1.out 5
  simp at x0 x1 x2 x3 x4 x5
  go_wp2_with (go_at_call 7; go_must (refine (HFx.out _ HB.out).mono ?_))
  rintro e w2 ⟨rfl, b2⟩
  have HX1 := Lib.hid ((b2.block N l0).trans HX1.out)
  have HB := Lib.hid (HB.out.trans (b2.mono HB.out.size))
  have l0 : N < w2.heap.size := (Array.getElem?_eq_some_iff.1 HX1.out).1
  clear b2 x0 x1 x2 x3 x4 x5
  cases f2 with
  | false =>
    go_wp2
    go_ret
    exact ⟨rfl, HB.out⟩
  | true =>
    have x0 := Lib.cell_of_heap HX1.out 0
    have x1 := Lib.cell_of_heap HX1.out 1
    have x2 := Lib.cell_of_heap HX1.out 2
    have x3 := Lib.cell_of_heap HX1.out 3
    have x4 := Lib.cell_of_heap HX1.out 4
    have x5 := Lib.cell_of_heap HX1.out 5
    simp at x0 x1 x2 x3 x4 x5
    have hfit := HFit.out HF2.out
    have hEn := HEnc.out _ HB.out hfit
    have HE := Lib.hid hEn
    have HFt := Lib.hid hfit
    clear hEn hfit HEnc HFx HFit
    go_wp2_with (go_at_call 8; go_must (refine HE.out.mono ?_))
    rintro e w3 ⟨ab, nb, cb, rfl, hrd, b3⟩
    have HRd := Lib.hid hrd
    clear hrd HE
    have HX1 := Lib.hid ((b3.block N l0).trans HX1.out)
    have HB := Lib.hid (HB.out.trans (b3.mono HB.out.size))
    have l0 : N < w3.heap.size := (Array.getElem?_eq_some_iff.1 HX1.out).1
    clear b3 x0 x1 x2 x3 x4 x5
    have x0 := Lib.cell_of_heap HX1.out 0
    have x1 := Lib.cell_of_heap HX1.out 1
    have x2 := Lib.cell_of_heap HX1.out 2
    have x3 := Lib.cell_of_heap HX1.out 3
    have x4 := Lib.cell_of_heap HX1.out 4
    have x5 := Lib.cell_of_heap HX1.out 5
    simp at x0 x1 x2 x3 x4 x5
    have hRg := HRg.out _ HB.out (by have h1 := (HFew.out HF2.out).1; have h2 := LX.out; omega) (by have h1 := (HFew.out HF2.out).2.1; have h2 := MX.out; omega)
    have HG := Lib.hid hRg
    clear hRg HRg
    go_wp2_with (go_at_call 9; go_must (refine HG.out.mono ?_))
    rintro e w4 ⟨rfl, b4⟩
    have HRd := Lib.hid (HRd.out.below' b4)
    have HX1 := Lib.hid ((b4.block N l0).trans HX1.out)
    have HB := Lib.hid (HB.out.trans (b4.mono HB.out.size))
    have l0 : N < w4.heap.size := (Array.getElem?_eq_some_iff.1 HX1.out).1
    clear b4 x0 x1 x2 x3 x4 x5
    cases rt with
    | false =>
      have he1 : er = 1 := HEr.out
      subst he1
      have hLr : [] = Lr := HLr.out
      rw [← hLr] at HRd
      have hn0 : nb = 0 := by have := HRd.out.1; simpa [bcells] using this.symm
      subst hn0
      go_wp2
      go_ret
      exact ⟨rfl, HB.out⟩
    | true =>
      have he0 : er = 0 := HEr.out
      subst he0
      have hLr : L = Lr := HLr.out
      rw [← hLr] at HRd
      obtain ⟨hnb, hsl⟩ := reads_sl HRd.out HNe.out
      subst hnb
      have HSl := Lib.hid hsl
      have hlen : L.length ≤ 1000000 := HLn.out HRt.out (HFew.out HF2.out).1 (HFew.out HF2.out).2.1 (fun t ht => by have := (HFew.out HF2.out).2.2 t ht; omega) HX.out.fl HX.out.hd
      have hbk := HBk.out HRt.out (by have := (HFew.out HF2.out).1; omega) (by have := (HFew.out HF2.out).2.1; omega) (fun t ht => by have := (HFew.out HF2.out).2.2 t ht; omega) HX.out.fl HX.out.hd
      have hDe : ∀ (W : World) (v : Value), Sl W.heap.size W v L → Calls Try.prog 11 #[v] W (DecP W xa xd xf xh xl xn nx mx) := fun W v h => (edecode_any W v L h hlen).mono fun e w' hp => decP_of LX.out MX.out (by rw [hbk] at hp; exact hp)
      have hDr : ∀ (W : World) (v : Value), Sl W.heap.size W v L → Calls Try.prog 12 #[v] W (DecP W xa xd xf xh xl xn nx mx) := fun W v h => (refdecode_any W v L h hlen).mono fun e w' hp => decP_of LX.out MX.out (by rw [hbk] at hp; exact hp)
      have HDe := Lib.hid hDe
      have HDr := Lib.hid hDr
      have HRf := Lib.hid (fun (W : World) (hb : Below w.heap.size w W) => HRe.out W hb HFt.out HRt.out)
      clear hLr hsl hlen hbk hDe hDr HBk HLn HRe HFt
      go_upto_region 8 with fail
      refine wp_region_all (by kernel_rfl) [eqF (.int .i64 0), eqF (.bool false), eqF (.bool false), eqF (.slice ab L.length cb), eqF (.string ⟨L.toArray⟩), eqF (.agg #[.slice ax nx cx, .slice bx mx dx, .int .u64 (xf : Int), .int .u64 (xh : Int), .int .i64 xl, .int .i64 xn]), ownsF w4.heap.size 5 1 L.length (bcells L), eqF (.string ⟨L.toArray⟩), eqF (.bool false), eqF (.bool false)] (by kernel_rfl) ⟨?_, ?_, ?_, ?_, ?_, ?_, ?_, ?_, ?_, ?_, trivial⟩ ⟨trivial, trivial, trivial, fun _ _ h => h, fun _ _ h => h, fun _ _ h => h, fun _ _ h => h, fun _ _ h => h, fun _ _ h => h, trivial, trivial⟩ ?_
      · intro ρ wx hρ hbx hl
        have e4 : ρ (.tmp 4) = .int .i64 0 := hρ.tmp 4 (by decide +kernel)
        refine y_val (v := .int .i64 0) ?_ rfl
        simp [execOp, go_sem, e4]
      · intro ρ wx hρ hbx hl
        have e29 : ρ (.tmp 29) = .int .i64 0 := hl 0 (by decide +kernel) 29 rfl
        refine y_val (v := .bool false) ?_ rfl
        simp [execOp, hρ.const, go_sem, e29]
      · intro ρ wx hρ hbx hl
        have e30 : ρ (.tmp 30) = .bool false := hl 1 (by decide +kernel) 30 rfl
        refine y_val (v := .bool false) ?_ rfl
        simp [execOp, go_sem, e30]
      · intro ρ wx hρ hbx hl
        have e3 : ρ (.tmp 3) = .slice ab L.length cb := hρ.tmp 3 (by decide +kernel)
        refine y_val (v := .slice ab L.length cb) ?_ rfl
        simp [execOp, go_sem, e3]
      · intro ρ wx hρ hbx hl
        have e32 : ρ (.tmp 32) = .slice ab L.length cb := hl 3 (by decide +kernel) 32 rfl
        have hc := Reads.conv (P := Try.prog) (w := wx) (src := 29) (e := 5) (dst := 9) Try.underlying29 Try.underlying5 Try.underlying9 (HRd.out.below' hbx)
        refine y_val (v := .string ⟨L.toArray⟩) ?_ rfl
        simp [execOp, e32, hc]
      · intro ρ wx hρ hbx hl
        have e1 : ρ (.tmp 1) = .pointer (some ⟨N, 0, none⟩) := hρ.tmp 1 (by decide +kernel)
        exact y_load_row _ _ rfl N e1 _ _ _ _ ((hbx.block N l0).trans HX1.out) Try.underlying26 rfl (by kernel_rfl) rfl
      · intro ρ wx hρ hbx hl
        have e34 : ρ (.tmp 34) = .agg #[.slice ax nx cx, .slice bx mx dx, .int .u64 (xf : Int), .int .u64 (xh : Int), .int .i64 xl, .int .i64 xn] := hl 5 (by decide +kernel) 34 rfl
        refine y_call (f := 10) (args := #[.agg #[.slice ax nx cx, .slice bx mx dx, .int .u64 (xf : Int), .int .u64 (xh : Int), .int .i64 xl, .int .i64 xn]]) (by simp [execOp, resolve, invoke, hρ.func, go_sem, e34]) ?_
        refine (HRf.out wx (HB.out.trans (hbx.mono HB.out.size))).mono ?_
        rintro e w6 ⟨v7, rfl, f7, b7⟩
        exact ⟨v7, rfl, owns_less f7 hbx.size, b7⟩
      · intro ρ wx hρ hbx hl
        have e35 := hl 6 (by decide +kernel) 35 rfl
        obtain ⟨sa, sc, hsv, _, _⟩ := (ownsRow.reads e35).le
        have hc := Reads.conv (P := Try.prog) (w := wx) (src := 29) (e := 5) (dst := 9) Try.underlying29 Try.underlying5 Try.underlying9 (ownsRow.reads e35)
        refine y_val (v := .string ⟨L.toArray⟩) ?_ rfl
        simp [execOp, hc]
      · intro ρ wx hρ hbx hl
        have e33 : ρ (.tmp 33) = .string ⟨L.toArray⟩ := hl 4 (by decide +kernel) 33 rfl
        have e36 : ρ (.tmp 36) = .string ⟨L.toArray⟩ := hl 7 (by decide +kernel) 36 rfl
        refine y_val (v := .bool false) ?_ rfl
        simp [execOp, go_sem, e33, e36]
      · intro ρ wx hρ hbx hl
        have e31 : ρ (.tmp 31) = .bool false := hl 2 (by decide +kernel) 31 rfl
        have e37 : ρ (.tmp 37) = .bool false := hl 8 (by decide +kernel) 37 rfl
        refine y_val (v := .bool false) ?_ rfl
        simp [execOp, go_sem, e31, e37]
      intro aa w5 hdef hsz hlk hbz hf
      have ha := act_of_like hdef hsz hlk [29, 30, 31, 32, 33, 34, 35, 36, 37, 38] 66 rfl (by decide +kernel)
      have e29 : aa.tmps.getD 29 undef = .int .i64 0 := hf 0 _ 29 rfl rfl
      have e30 : aa.tmps.getD 30 undef = .bool false := hf 1 _ 30 rfl rfl
      have e31 : aa.tmps.getD 31 undef = .bool false := hf 2 _ 31 rfl rfl
      have e32 : aa.tmps.getD 32 undef = .slice ab L.length cb := hf 3 _ 32 rfl rfl
      have e33 : aa.tmps.getD 33 undef = .string ⟨L.toArray⟩ := hf 4 _ 33 rfl rfl
      have e34 : aa.tmps.getD 34 undef = .agg #[.slice ax nx cx, .slice bx mx dx, .int .u64 (xf : Int), .int .u64 (xh : Int), .int .i64 xl, .int .i64 xn] := hf 5 _ 34 rfl rfl
      have e36 : aa.tmps.getD 36 undef = .string ⟨L.toArray⟩ := hf 7 _ 36 rfl rfl
      have e37 : aa.tmps.getD 37 undef = .bool false := hf 8 _ 37 rfl rfl
      have e38 : aa.tmps.getD 38 undef = .bool false := hf 9 _ 38 rfl rfl
      simp only [putAll, List.foldl_cons, List.foldl_nil, e29, e30, e31, e32, e33, e34, e36, e37, e38] at ha
      generalize aa.tmps.getD 35 undef = v35 at ha
      simp [Act.put] at ha
      subst ha
      clear hdef hsz hlk hf e29 e30 e31 e32 e33 e34 e36 e37 e38
      have HSl := Lib.hid (sl_up (HSl.out.below hbz) hbz.size)
      have HX1 := Lib.hid ((hbz.block N l0).trans HX1.out)
      have HB := Lib.hid (HB.out.trans (hbz.mono HB.out.size))
      have l0 : N < w5.heap.size := (Array.getElem?_eq_some_iff.1 HX1.out).1
      have HD1 := Lib.hid (HDe.out w5 _ HSl.out)
      clear hbz HRf HRd HDe
      go_wp2_with (go_at_call 11; go_must (refine HD1.out.mono ?_))
      rintro e w6 ⟨a1, c1, a2, c2, rfl, ht, hr, hb6⟩
      have hba : Below w6.heap.size w6 (w6.alloc (.cells #[.slice a1 nx c1, .slice a2 mx c2, .int .u64 (xf : Int), .int .u64 (xh : Int), .int .i64 xl, .int .i64 xn] 26)) := (Below.refl _ _).alloc (Nat.le_refl _) _
      have HY := Lib.hid (heap_alloc_new w6 (.cells #[.slice a1 nx c1, .slice a2 mx c2, .int .u64 (xf : Int), .int .u64 (xh : Int), .int .i64 xl, .int .i64 xn] 26))
      have hb67 := hb6.trans (hba.mono hb6.size)
      have HT1 := Lib.hid (ht.below hba)
      have HU1 := Lib.hid (hr.below' hba)
      have HSl := Lib.hid (sl_up (HSl.out.below hb67) hb67.size)
      have HX1 := Lib.hid ((hb67.block N l0).trans HX1.out)
      have HB := Lib.hid (HB.out.trans (hb67.mono HB.out.size))
      clear ht hr hb6 hba hb67 HD1
      go_upto_region 11 with fail
      obtain ⟨g5, hg5⟩ : ∃ g, w6.heap.size = g := ⟨_, rfl⟩
      rw [hg5] at HY
      rw [hg5]
      clear hg5
      generalize w6.alloc (.cells #[.slice a1 nx c1, .slice a2 mx c2, .int .u64 (xf : Int), .int .u64 (xh : Int), .int .i64 xl, .int .i64 xn] 26) = w7 at *
      have HD1 := Lib.hid (HDr.out w7 _ HSl.out)
      have l0 : N < w7.heap.size := (Array.getElem?_eq_some_iff.1 HX1.out).1
      have l5 : g5 < w7.heap.size := (Array.getElem?_eq_some_iff.1 HY.out).1
      clear HDr HSl
      go_wp2_with (go_at_call 12; go_must (refine HD1.out.mono ?_))
      rintro e w8 ⟨e1, f1, e2, f2, rfl, ht, hr, hb8⟩
      have hba : Below w8.heap.size w8 (w8.alloc (.cells #[.slice e1 nx f1, .slice e2 mx f2, .int .u64 (xf : Int), .int .u64 (xh : Int), .int .i64 xl, .int .i64 xn] 26)) := (Below.refl _ _).alloc (Nat.le_refl _) _
      have HZ := Lib.hid (heap_alloc_new w8 (.cells #[.slice e1 nx f1, .slice e2 mx f2, .int .u64 (xf : Int), .int .u64 (xh : Int), .int .i64 xl, .int .i64 xn] 26))
      have hb89 := hb8.trans (hba.mono hb8.size)
      have HT2 := Lib.hid (ht.below hba)
      have HU2 := Lib.hid (hr.below' hba)
      have HT1 := Lib.hid (HT1.out.below hb89)
      have HU1 := Lib.hid (HU1.out.below' hb89)
      have HX1 := Lib.hid ((hb89.block N l0).trans HX1.out)
      have HY := Lib.hid ((hb89.block g5 l5).trans HY.out)
      have HB := Lib.hid (HB.out.trans (hb89.mono HB.out.size))
      clear ht hr hb8 hba hb89 HD1 l0 l5
      go_upto_region 12 with fail
      obtain ⟨g6, hg6⟩ : ∃ g, w8.heap.size = g := ⟨_, rfl⟩
      rw [hg6] at HZ
      rw [hg6]
      clear hg6
      generalize w8.alloc (.cells #[.slice e1 nx f1, .slice e2 mx f2, .int .u64 (xf : Int), .int .u64 (xh : Int), .int .i64 xl, .int .i64 xn] 26) = w9 at *
      have l0 : N < w9.heap.size := (Array.getElem?_eq_some_iff.1 HX1.out).1
      have l5 : g5 < w9.heap.size := (Array.getElem?_eq_some_iff.1 HY.out).1
      have l6 : g6 < w9.heap.size := (Array.getElem?_eq_some_iff.1 HZ.out).1
      have x0 := Lib.cell_of_heap HX1.out 0
      have x1 := Lib.cell_of_heap HX1.out 1
      have x2 := Lib.cell_of_heap HX1.out 2
      have x3 := Lib.cell_of_heap HX1.out 3
      have x4 := Lib.cell_of_heap HX1.out 4
      have x5 := Lib.cell_of_heap HX1.out 5
      simp at x0 x1 x2 x3 x4 x5
      have y0 := Lib.cell_of_heap HY.out 0
      have y1 := Lib.cell_of_heap HY.out 1
      have y2 := Lib.cell_of_heap HY.out 2
      have y3 := Lib.cell_of_heap HY.out 3
      have y4 := Lib.cell_of_heap HY.out 4
      have y5 := Lib.cell_of_heap HY.out 5
      simp at y0 y1 y2 y3 y4 y5
      have z0 := Lib.cell_of_heap HZ.out 0
      have z1 := Lib.cell_of_heap HZ.out 1
      have z2 := Lib.cell_of_heap HZ.out 2
      have z3 := Lib.cell_of_heap HZ.out 3
      have z4 := Lib.cell_of_heap HZ.out 4
      have z5 := Lib.cell_of_heap HZ.out 5
      simp at z0 z1 z2 z3 z4 z5
      have HS1 := Lib.hid (HSe.out w9 a1 a2 e1 e2 c1 c2 f1 f2 HT1.out HU1.out HT2.out HU2.out)
      go_wp2_with (go_at_call 13; go_must (refine HS1.out.mono ?_))
      rintro e wa ⟨rfl, ba⟩
      have HS2 := Lib.hid (HSe.out wa ax bx a1 a2 cx dx c1 c2 (HRow.out wa (HB.out.trans (ba.mono HB.out.size))) (HDrp.out wa (HB.out.trans (ba.mono HB.out.size))) (HT1.out.below ba) (HU1.out.below' ba))
      clear x0 x1 x2 x3 x4 x5 y0 y1 y2 y3 y4 y5 z0 z1 z2 z3 z4 z5
      have HX1 := Lib.hid ((ba.block N l0).trans HX1.out)
      have HY := Lib.hid ((ba.block g5 l5).trans HY.out)
      have HB := Lib.hid (HB.out.trans (ba.mono HB.out.size))
      have l0 : N < wa.heap.size := (Array.getElem?_eq_some_iff.1 HX1.out).1
      have l5 : g5 < wa.heap.size := (Array.getElem?_eq_some_iff.1 HY.out).1
      clear ba HS1 HT1 HT2 HU1 HU2 HZ l6
      have x0 := Lib.cell_of_heap HX1.out 0
      have x1 := Lib.cell_of_heap HX1.out 1
      have x2 := Lib.cell_of_heap HX1.out 2
      have x3 := Lib.cell_of_heap HX1.out 3
      have x4 := Lib.cell_of_heap HX1.out 4
      have x5 := Lib.cell_of_heap HX1.out 5
      simp at x0 x1 x2 x3 x4 x5
      have y0 := Lib.cell_of_heap HY.out 0
      have y1 := Lib.cell_of_heap HY.out 1
      have y2 := Lib.cell_of_heap HY.out 2
      have y3 := Lib.cell_of_heap HY.out 3
      have y4 := Lib.cell_of_heap HY.out 4
      have y5 := Lib.cell_of_heap HY.out 5
      simp at y0 y1 y2 y3 y4 y5
      go_wp2_with (go_at_call 13; go_must (refine HS2.out.mono ?_))
      rintro e wb ⟨rfl, bb⟩
      have HB := Lib.hid (HB.out.trans (bb.mono HB.out.size))
      clear bb x0 x1 x2 x3 x4 x5 y0 y1 y2 y3 y4 y5 HS2 HX1 HY l0 l5
      go_wp2
      go_ret
      exact ⟨rfl, HB.out⟩
end Go.Proofs.Ythjimldojdhccaa
