/- Acts that came in; few. -/
import Derived.Test.YtdooedlapoknbaaCacheFixed
import Derived.Test.YtdooedlapoknbaaSliceOpen
import Derived.Test.YtdooedlapoknbaaGives
import Derived.ProofKit
import Derived.ShutString
import Derived.ChangeOld
import Derived.Lib.SmallJoins
import Derived.Deep.Strs
namespace Go.Proofs.Ytdooedlapoknbaa
open Go Go.RowKit Go.Joins Go.WideShapes Go.ChangeShapes Go.ChangeAt Go.Deep

structure CAct where
  (k : Nat) (f b : Int) (a : Option Addr) (cap : Nat) (ks : List ByteArray)

def cacell (x : CAct) : List Value := [.int .u8 (x.k : Int), .int .i64 x.f, .int .i64 x.b, .slice x.a x.ks.length x.cap]
theorem cacell_length (x : CAct) : (cacell x).length = 4 := rfl

def CAct.fits (w : World) (x : CAct) : Prop := x.k < 256 ∧ InI x.f ∧ InI x.b ∧ (∀ y ∈ x.ks, y.size ≤ maxLen) ∧ Reads w 1 (.slice x.a x.ks.length x.cap) x.ks.length (scells x.ks)

/-- A row of acts. -/
def CActsAt (w : World) (a : Option Addr) (len cap : Nat) (l : List CAct) : Prop := l.length = len ∧ Reads w 4 (.slice a len cap) len (l.flatMap cacell) ∧ ∀ x ∈ l, x.fits w

theorem CActsAt.below {w w' : World} {a : Option Addr} {len cap : Nat} {l : List CAct} (h : CActsAt w a len cap l) (b : Below w.heap.size w w') : CActsAt w' a len cap l :=
  ⟨h.1, h.2.1.below' b, fun x hx => by obtain ⟨h1, h2, h3, h4, h5⟩ := h.2.2 x hx; exact ⟨h1, h2, h3, h4, h5.below' b⟩⟩

theorem CActsAt.at {w : World} {a : Option Addr} {len cap : Nat} {l : List CAct} (h : CActsAt w a len cap l) {i : Nat} {x : CAct} (hx : l[i]? = some x) :
    x.fits w ∧ ∃ g off, a = some ⟨g, off, none⟩ ∧ g < w.heap.size ∧ w.cell? ⟨g, off + i * 4, none⟩ = some (.int .u8 (x.k : Int)) ∧ w.cell? ⟨g, off + i * 4 + 1, none⟩ = some (.int .i64 x.f) ∧ w.cell? ⟨g, off + i * 4 + 2, none⟩ = some (.int .i64 x.b) ∧ w.cell? ⟨g, off + i * 4 + 3, none⟩ = some (.slice x.a x.ks.length x.cap) := by
  refine ⟨h.2.2 x (List.mem_of_getElem? hx), ?_⟩
  have hc : ∀ j, j < 4 → (l.flatMap cacell)[i * 4 + j]? = (cacell x)[j]? := flat_cell cacell 4 cacell_length l i x hx
  obtain ⟨g, off, ha, hg, c0⟩ := h.2.1.at (hc 0 (by decide))
  obtain ⟨g1, off1, ha1, _, c1⟩ := h.2.1.at (hc 1 (by decide))
  obtain ⟨g2, off2, ha2, _, c2⟩ := h.2.1.at (hc 2 (by decide))
  obtain ⟨g3, off3, ha3, _, c3⟩ := h.2.1.at (hc 3 (by decide))
  rw [ha] at ha1 ha2 ha3
  cases ha1
  cases ha2
  cases ha3
  exact ⟨g, off, ha, hg, c0, c1, c2, c3⟩

section
variable {H : Type} {enc : TypeId × Value → H} {w : World} {base : Nat} {spare : Nat → Bool} {held : Bool}

theorem oneS {n : Nat} {c : Value} {y : DataW H × List MemPlace} (h : DataW.trod enc Try.prog w base spare held n 9 [c] = some y) : ∃ s : ByteArray, c = .string s ∧ s.size ≤ maxLen := by
  obtain ⟨s, e, _, hs⟩ := DataW.trod_string Try.underlying9 h
  simp only [List.cons.injEq, and_true] at e
  exact ⟨s, e, hs⟩

theorem oneI {n : Nat} {c : Value} {y : DataW H × List MemPlace} (h : DataW.trod enc Try.prog w base spare held n 3 [c] = some y) : ∃ m : Int, c = .int .i64 m ∧ InI m := by
  obtain ⟨k, e, _, hw⟩ := DataW.trod_int Try.underlying3 h
  simp only [List.cons.injEq, and_true] at e
  have bd : -9223372036854775808 ≤ k ∧ k ≤ 9223372036854775807 := by simpa [Lit.wf, IntKind.min, IntKind.max, IntKind.signed, IntKind.bits] using hw
  exact ⟨k, e, bd⟩

theorem oneB {n : Nat} {c : Value} {y : DataW H × List MemPlace} (h : DataW.trod enc Try.prog w base spare held n 5 [c] = some y) : ∃ m : Nat, c = .int .u8 (m : Int) ∧ m < 256 := by
  obtain ⟨k, e, _, hw⟩ := DataW.trod_int Try.underlying5 h
  simp only [List.cons.injEq, and_true] at e
  have bd : 0 ≤ k ∧ k ≤ 255 := by simpa [Lit.wf, IntKind.min, IntKind.max, IntKind.signed, IntKind.bits] using hw
  obtain ⟨m, rfl⟩ := Int.eq_ofNat_of_zero_le bd.1
  exact ⟨m, e, by omega⟩

theorem cacts_open {r : Reach} {b0 : Nat} {v : Value} {d : DataW H} {p : List MemPlace} (hv : Value.okWide Try.prog w r b0 32 v) (h : DataW.Trod enc Try.prog w base spare held 32 v d p) :
    ∃ a len cap l, v = .slice a len cap ∧ len ≤ maxLen ∧ CActsAt w a len cap l := by
  have : Inhabited CAct := ⟨⟨0, 0, 0, none, 0, []⟩⟩
  have : Inhabited ByteArray := ⟨⟨#[]⟩⟩
  have k1 : Try.prog.cellsOf 5 = 1 := by kernel_rfl
  have k2 : Try.prog.cellsOf 3 = 1 := by kernel_rfl
  have k3 : Try.prog.cellsOf 26 = 1 := by kernel_rfl
  obtain ⟨a, len, cap, l, rfl, h1, h2, h3, h4, h5⟩ := slice_rows cacell (fun x => x.fits w) Try.underlying32 (by kernel_rfl) (by decide) cacell_length (fun n cs y hl ht => by
    obtain ⟨y0, y1, y2, y3, m, _, _, h0, h1, h2, h3⟩ := trod_struct4 Try.underlying36 ht
    match cs, hl with
    | [d0, d1, d2, d3], _ =>
      rw [k1] at h0
      rw [k2] at h1 h2
      rw [k3] at h3
      simp at h0 h1 h2 h3
      obtain ⟨k, rfl, hk⟩ := oneB h0
      obtain ⟨f, rfl, hf⟩ := oneI h1
      obtain ⟨b, rfl, hb⟩ := oneI h2
      obtain ⟨a, len, cap, l, rfl, _, _, hn, hq, hr⟩ := slice_rows_of (fun x : ByteArray => [Value.string x]) (fun x => x.size ≤ maxLen) Try.underlying26 (by kernel_rfl) (by decide) (fun _ => rfl) (fun n cs y hl ht => by
        obtain ⟨c, rfl⟩ : ∃ c, cs = [c] := by
          match cs, hl with
          | [c], _ => exact ⟨c, rfl⟩
        obtain ⟨s, rfl, hs⟩ := oneS ht
        exact ⟨s, rfl, hs⟩) h3
      subst hn
      rw [show (l.flatMap fun x => [Value.string x]) = scells l by unfold scells; rw [List.map_eq_flatMap]] at hr
      exact ⟨⟨k, f, b, a, cap, l⟩, rfl, hk, hf, hb, hq, hr⟩) hv h
  exact ⟨a, len, cap, l, rfl, by omega, h3, h5, h4⟩
end

def okA (x : CAct) : Bool := decide (x.ks.length ≤ 20) && x.ks.all fun y => decide (y.size ≤ 100)
/-- Are they few and short? -/
def fewC (l : List CAct) : Bool := l.all okA && decide (l.length ≤ 150)

def FewRel (w : World) (l : List CAct) (i : Value) (wr : World) : Prop := ∃ k : Nat, i = .int .i64 (k : Int) ∧ k ≤ l.length ∧ (l.take k).all okA = true ∧ Below w.heap.size w wr
def FewIn (w w2 : World) (ks : List ByteArray) (i : Value) (wr : World) : Prop := ∃ k : Nat, i = .int .i64 (k : Int) ∧ k ≤ ks.length ∧ ((ks.take k).all fun y => decide (y.size ≤ 100)) = true ∧ Below w.heap.size w wr ∧ Below w2.heap.size w2 wr

theorem all_succ {α : Type} {l : List α} {k : Nat} {x : α} (p : α → Bool) (h : l[k]? = some x) : (l.take (k + 1)).all p = ((l.take k).all p && p x) := by
  rw [List.take_add_one, List.all_append, h]; simp

theorem all_out {α : Type} {l : List α} {k : Nat} {x : α} (p : α → Bool) (h : l[k]? = some x) (hp : p x = false) : l.all p = false := List.all_eq_false.2 ⟨x, List.mem_of_getElem? h, by rw [hp]; decide⟩

set_option maxRecDepth 100000 in
set_option maxHeartbeats 4000000 in
theorem few_any (w : World) (a : Option Addr) (len cap : Nat) (l : List CAct) (h : CActsAt w a len cap l) (hl : len ≤ maxLen) :
    Calls Try.prog 12 #[.slice a len cap] w (GivesBool w (fewC l)) := by
  have hlen := h.1
  have HA := Lib.hid h
  have HL := Lib.hid hlen
  unfold maxLen at hl
  clear h hlen
  go_enter Try.func12, Try.ntmps12
  go_wp2
  go_loopw [9] (fun i wr => FewRel w l i wr) (fun i _ => len - (intOf i).toNat)
  case atStart => exact ⟨0, rfl, Nat.zero_le _, rfl, Below.refl _ _⟩
  case round =>
    obtain ⟨k, rfl, hk, hall, hb⟩ := hrel
    rw [HL.out] at hk
    have HB := Lib.hid hb
    have HAl := Lib.hid hall
    by_cases hlt : k < len
    · obtain ⟨x, hx⟩ : ∃ x, l[k]? = some x := ⟨_, List.getElem?_eq_getElem (by rw [HL.out]; exact hlt)⟩
      obtain ⟨hfit, g, off, rfl, hg, c0, c1, c2, c3⟩ := (HA.out.below hb).at hx
      obtain ⟨_, _, _, hks, hrd⟩ := hfit
      have hn : x.ks.length ≤ 9223372036854775807 := by
        obtain ⟨_, a', cap', hv, e1, e2, _⟩ := hrd
        cases hv
        unfold maxLen at e2
        omega
      have hsucc := all_succ okA hx
      have hout := all_out okA hx
      rw [hall, Bool.true_and] at hsucc
      have HS := Lib.hid hsucc
      have HO : Hid (okA x = false → fewC l = false) := Lib.hid (fun h => by unfold fewC; rw [hout h]; rfl)
      have HKs := Lib.hid hks
      have hb2 := hb.alloc hb.size (.cells #[.int .u8 (x.k : Int), .int .i64 x.f, .int .i64 x.b, .slice x.a x.ks.length x.cap] 36)
      have HB2 := Lib.hid hb2
      have HRd := Lib.hid (hrd.alloc (.cells #[.int .u8 (x.k : Int), .int .i64 x.f, .int .i64 x.b, .slice x.a x.ks.length x.cap] 36))
      clear hall hb hb2 hks hrd hsucc hout hx HAl
      generalize x.a = xa at *
      generalize x.cap = xcap at *
      by_cases h20 : x.ks.length ≤ 20
      · go_wp2
        generalize wr.alloc (.cells #[.int .u8 (x.k : Int), .int .i64 x.f, .int .i64 x.b, .slice xa x.ks.length xcap] 36) = w2 at *
        go_loopw [20] (fun i wi => FewIn w w2 x.ks i wi) (fun i _ => x.ks.length - (intOf i).toNat)
        case atStart => exact ⟨0, rfl, Nat.zero_le _, rfl, HB2.out, Below.refl _ _⟩
        case round =>
          obtain ⟨j, rfl, hj, hja, hjb, hj2⟩ := hrel
          have HJa := Lib.hid hja
          have HJb := Lib.hid hjb
          have HJ2 := Lib.hid hj2
          clear hja hjb hj2
          by_cases hjl : j < x.ks.length
          · obtain ⟨g2, off2, y, rfl, hy, hg2, hcell⟩ := (HRd.out.below' HJ2.out).scell j hjl
            have hysz := HKs.out y (List.mem_of_getElem? hy)
            unfold maxLen at hysz
            have hs2 := all_succ (fun y : ByteArray => decide (y.size ≤ 100)) hy
            have ho2 := all_out (fun y : ByteArray => decide (y.size ≤ 100)) hy
            rw [HJa.out, Bool.true_and] at hs2
            have HS2 := Lib.hid hs2
            have HO2 := Lib.hid ho2
            clear hs2 ho2 hy HJa c0 c1 c2 c3
            by_cases h100 : y.size ≤ 100
            · have h100I : ¬ ((100 : Int) < y.size) := by omega
              go_wp2
              exact ⟨⟨j + 1, by go_num, by omega, by rw [HS2.out]; exact decide_eq_true h100, HJb.out, HJ2.out⟩, by simp [intOf]; omega⟩
            · have h100I : (100 : Int) < y.size := by omega
              have hf : fewC l = false := HO.out (by unfold okA; rw [HO2.out (decide_eq_false h100), Bool.and_false])
              have HF := Lib.hid hf
              clear hf
              go_wp2
              go_ret
              rw [HF.out]
              exact ⟨rfl, HJb.out⟩
          · obtain rfl : j = x.ks.length := by omega
            have hok : okA x = true := by
              unfold okA
              have := HJa.out
              rw [List.take_length] at this
              rw [this, Bool.and_true]
              exact decide_eq_true h20
            rw [hok] at HS
            clear HJa c0 c1 c2 c3 hok
            go_wp2
            exact ⟨⟨k + 1, by go_num, by rw [HL.out]; omega, HS.out, HJb.out⟩, by simp [intOf]; omega⟩
      · have h20I : (20 : Int) < x.ks.length := by omega
        have hf : fewC l = false := HO.out (by unfold okA; rw [decide_eq_false h20, Bool.false_and])
        have HF := Lib.hid hf
        clear hf
        go_wp2
        go_ret
        rw [HF.out]
        exact ⟨rfl, HB2.out⟩
    · have hfb : fewC l = decide ((len : Int) ≤ 150) := by
        unfold fewC
        have : l.take k = l := List.take_of_length_le (by rw [HL.out]; omega)
        rw [this] at hall
        rw [hall, HL.out, Bool.true_and]
        exact decide_eq_decide.2 (by omega)
      have HF := Lib.hid hfb
      obtain rfl : k = len := by omega
      clear hfb HAl hall hlt hk hb
      go_wp2
      go_ret
      rw [HF.out]
      exact ⟨rfl, HB.out⟩
end Go.Proofs.Ytdooedlapoknbaa
